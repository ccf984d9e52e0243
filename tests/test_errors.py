import unittest

from earworks import errors


class ErrorClasses(unittest.TestCase):
    def test_web_error_stands_straight_under_value_error(self):
        self.assertEqual(errors.WebError.__bases__, (ValueError,))

    def test_each_refusal_stands_straight_under_web_error(self):
        for name in ("BadWeb", "TooFew", "BadPoint", "BadCount", "Tied", "BadText"):
            with self.subTest(name):
                self.assertEqual(getattr(errors, name).__bases__, (errors.WebError,))


if __name__ == "__main__":
    unittest.main()
