"""The rules of LANGUAGE.md that can be seen in a file by itself, asked of the package's files."""

import ast
import builtins
import pathlib
import re
import unittest

PACKAGE = pathlib.Path(__file__).resolve().parent.parent / "earworks"
NODES = """Module Expr Constant ImportFrom alias FunctionDef ClassDef arguments arg Assign AugAssign If While For Return
Break Continue Pass Raise Try ExceptHandler Call BinOp UnaryOp BoolOp Compare IfExp Attribute Subscript Slice ListComp
comprehension JoinedStr FormattedValue Lambda List Tuple Dict Set Name keyword Load Store AnnAssign Add Sub Mult FloorDiv Mod Pow
BitAnd BitOr BitXor LShift RShift Invert UAdd USub Not And Or Eq NotEq Lt LtE Gt GtE In NotIn Is IsNot""".split()
OWN_NAMES = """len range enumerate zip min max sum abs sorted reversed int str bool list tuple dict set frozenset
isinstance ord repr any all divmod ValueError KeyError IndexError LookupError ZeroDivisionError StopIteration""".split()
METHODS = """append clear copy count endswith extend find get index insert isalnum isalpha isdigit islower isspace
isupper items join keys ljust lower lstrip partition pop remove replace reverse rfind rjust rpartition rsplit rstrip
setdefault split splitlines startswith strip update upper values zfill bit_length""".split()
WORDS = """type typing typing_extensions enum Enum IntEnum StrEnum Flag IntFlag Generic Protocol ABC ABCMeta namedtuple
NamedTuple TypedDict TYPE_CHECKING abstractmethod register mro elements input version_info""".split()
DUNDERS = ("__init__", "__eq__", "__repr__", "__str__", "__len__")


def nodes_of(tree, *kinds):
    return [node for node in ast.walk(tree) if isinstance(node, kinds)]


def bound_names(tree):
    names = [node.name for node in nodes_of(tree, ast.FunctionDef, ast.ClassDef)]
    names += [node.arg for node in nodes_of(tree, ast.arg)]
    names += [node.id for node in nodes_of(tree, ast.Name) if isinstance(node.ctx, ast.Store)]
    names += [node.name for node in nodes_of(tree, ast.ExceptHandler) if node.name]
    return names + [alias.name for alias in nodes_of(tree, ast.alias)]


def drawn_from(trees, name):
    """The files that a file draws from, in whatever many steps."""
    found = []
    unfinished = [name]
    for file in unfinished:
        for node in nodes_of(trees[file], ast.ImportFrom):
            source = node.module.partition(".")[2] + ".py"
            if source in trees and source not in found:
                found.append(source)
                unfinished.append(source)
    return found


class Language(unittest.TestCase):
    def setUp(self):
        self.texts = {path.name: path.read_text(encoding="utf-8") for path in sorted(PACKAGE.glob("*.py"))}
        self.trees = {name: ast.parse(text) for name, text in self.texts.items()}

    def test_folder(self):
        for path in PACKAGE.iterdir():
            if path.name != "__pycache__":
                self.assertRegex(path.name, r"\A(__init__|[a-z][a-z0-9_]*)\.py\Z")
        self.assertIn("__init__.py", self.texts)

    def test_signs_and_sizes(self):
        for name, text in self.texts.items():
            self.assertRegex(text, r"\A[ -~\n]*\Z", name)
            self.assertLessEqual(len(text.splitlines()), 400, name)
            self.assertLessEqual(max(map(len, text.splitlines())), 120, name)
            for node in nodes_of(self.trees[name], ast.FunctionDef):
                self.assertLessEqual(node.end_lineno - node.lineno + 1, 40, node.name)

    def test_words(self):
        for name, text in self.texts.items():
            self.assertEqual(sorted(set(re.findall(r"\w+", text)) & set(WORDS)), [], name)

    def test_kinds_of_steps(self):
        for name, tree in self.trees.items():
            used = {type(node).__name__ for node in ast.walk(tree)}
            self.assertEqual(sorted(used - set(NODES)), [], name)

    def test_imports_are_the_packages_own_and_from_where_the_name_is_defined(self):
        for name, tree in self.trees.items():
            for node in nodes_of(tree, ast.ImportFrom):
                self.assertIn(node, tree.body, name)
                if node.module == "__future__":
                    continue
                self.assertTrue(node.level == 0 and node.module.startswith("earworks."), name)
                source = self.trees[node.module.partition(".")[2] + ".py"]
                defined = [other.name for other in source.body if isinstance(other, (ast.FunctionDef, ast.ClassDef))]
                defined += [other.targets[0].id for other in source.body if isinstance(other, ast.Assign)]
                for alias in node.names:
                    self.assertIn(alias.name, defined, name)

    def test_names(self):
        for name, tree in self.trees.items():
            bound = bound_names(tree)
            for word in bound:
                self.assertTrue(word in DUNDERS or not word.startswith("_"), word)
                self.assertFalse(word not in DUNDERS and hasattr(builtins, word), word)
            for node in nodes_of(tree, ast.Name):
                self.assertIn(node.id, bound + OWN_NAMES, name)

    def test_no_two_files_draw_from_one_another(self):
        for name in self.trees:
            self.assertNotIn(name, drawn_from(self.trees, name))

    def test_no_local_is_called_like_a_class_or_an_import(self):
        for name, tree in self.trees.items():
            taken = [node.name for node in nodes_of(tree, ast.ClassDef, ast.alias)]
            local = [node.arg for node in nodes_of(tree, ast.arg)]
            local += [node.id for node in nodes_of(tree, ast.Name) if isinstance(node.ctx, ast.Store)]
            self.assertEqual(sorted(set(taken) & set(local)), [], name)

    def test_methods(self):
        own = {}
        for tree in self.trees.values():
            for node in nodes_of(tree, ast.ClassDef):
                own.update((method.name, True) for method in nodes_of(node, ast.FunctionDef))
        stored = [node.attr for tree in self.trees.values() for node in nodes_of(tree, ast.Attribute)
                  if isinstance(node.ctx, ast.Store)]
        self.assertEqual(sorted(set(stored) & set(own)), [])
        for name, tree in self.trees.items():
            for node in nodes_of(tree, ast.Attribute):
                self.assertTrue(node.attr in own or node.attr in stored or node.attr in METHODS, node.attr)

    def test_functions_and_classes_are_plain(self):
        for tree in self.trees.values():
            for node in nodes_of(tree, ast.FunctionDef, ast.ClassDef):
                self.assertEqual(node.decorator_list, [], node.name)
            for node in nodes_of(tree, ast.arguments):
                self.assertFalse(node.vararg or node.kwarg or node.kwonlyargs or node.posonlyargs)
            for node in nodes_of(tree, ast.ClassDef):
                self.assertLessEqual(len(node.bases), 1, node.name)


if __name__ == "__main__":
    unittest.main()
