import re
import unittest
from itertools import product

from earworks.errors import BadText
from earworks.texts import read, written
from earworks.webs import Web
from helper import OTHER_KINDS, larger_webs, small_webs

# Beside the signs that are written: blanks, feeds, signs of numbers, and digits of other sorts (of other scripts, raised,
# wide, in a ring).
SIGNS = ("0123456789;- +.,:_/()xe'\"\n\r\t\v\f\0\x1c\x85\xa0\u2003\u2028\u2010\u2013\u2212\u0660\u0661\u0967\u00b2"
         "\u00b9\uff11\uff12\uff0d\uff1b\u2460\u2160\U0001d7d9\ufeff\u200b\ud800")


def plainly_written(points, ties):
    return str(points) + "".join(f"; {one}-{other}" for one, other in ties)


def written_web(text):
    """The points and ties of a text that is written so, else None."""
    if not re.fullmatch("[1-8](; [0-7]-[0-7])*", text):
        return None
    points = int(text[0])
    ties = [(int(part[0]), int(part[2])) for part in text.split("; ")[1:]]
    good = len(ties) <= 14 and all(one < other < points for one, other in ties)
    return (points, ties) if good else None


class Reading(unittest.TestCase):
    def refused(self, text):
        with self.assertRaises(BadText) as caught:
            read(text)
        self.assertIs(type(caught.exception), BadText)

    def is_read(self, text, points, ties):
        web = read(text)
        self.assertIs(type(web), Web)
        self.assertEqual((web.points, web.ties()), (points, ties))
        self.assertEqual(written(web), text)

    def read_or_refused(self, text):
        there = written_web(text)
        if there is None:
            self.refused(text)
        else:
            self.is_read(text, *there)


class Written(Reading):
    def test_known(self):
        for points, ties, text in ((1, [], "1"), (8, [], "8"), (2, [(0, 1)], "2; 0-1"),
                                   (3, [(0, 1), (1, 2)], "3; 0-1; 1-2"), (3, [(1, 2), (0, 1)], "3; 1-2; 0-1"),
                                   (8, [(6, 7), (0, 7), (0, 7)], "8; 6-7; 0-7; 0-7"),
                                   (2, [(0, 1)] * 14, "2" + "; 0-1" * 14)):
            with self.subTest(text):
                self.assertEqual(written(Web(points, ties)), text)
                self.assertIs(type(written(Web(points, ties))), str)
                self.is_read(text, points, ties)

    def test_many(self):
        for web in (*small_webs(2), *larger_webs(30)):
            text = plainly_written(web.points, web.ties())
            self.assertEqual(written(web), text)
            self.is_read(text, web.points, web.ties())

    def test_every_tie_there_can_be(self):
        for points in range(1, 9):
            for one in range(points):
                for other in range(one + 1, points):
                    self.is_read(f"{points}; {one}-{other}", points, [(one, other)])

    def test_the_web_stays(self):
        web = Web(3, [(1, 2), (0, 1)])
        written(web)
        self.assertEqual((web.points, web.ties()), (3, [(1, 2), (0, 1)]))

    def test_what_is_read_is_new(self):
        first = read("3; 0-1")
        first.ties().append((1, 2))
        first.points = 5
        self.is_read("3; 0-1", 3, [(0, 1)])


class OneSignOff(Reading):
    TEXTS = ("1", "8", "2; 0-1", "3; 0-1; 1-2", "8; 6-7; 0-7; 0-7", "7; 0-5" + "; 2-6" * 12, "2" + "; 0-1" * 14)

    def test_left_out(self):
        for text in self.TEXTS:
            for place in range(len(text)):
                self.read_or_refused(text[:place] + text[place + 1:])

    def test_put_in(self):
        for text in self.TEXTS:
            for place, sign in product(range(len(text) + 1), SIGNS):
                self.read_or_refused(text[:place] + sign + text[place:])

    def test_set_in_its_place(self):
        for text in self.TEXTS:
            for place, sign in product(range(len(text)), SIGNS):
                self.read_or_refused(text[:place] + sign + text[place + 1:])

    def test_two_changed_places(self):
        for text in self.TEXTS:
            for place in range(len(text) - 1):
                self.read_or_refused(text[:place] + text[place + 1] + text[place] + text[place + 2:])


class ShortTexts(Reading):
    def test_all(self):
        for many in range(7):
            for signs in product("012; -", repeat=many):
                self.read_or_refused("".join(signs))


class NoTexts(Reading):
    def test_wrong(self):
        for text in ("", " ", ";", "; ", "-", "\n", "0", "9", "10", "00", "01", "-1", "+1", "1.0", "1_0", "one", "0x1",
                     " 1", "1 ", "1\n", "\n1", "1;", "1; ", "; 1", "2; 0-1;", "2; 0-1; ", "2;0-1", "2 ; 0-1", "2;  0-1",
                     "2, 0-1", "2; 0 - 1", "2; 0--1", "2; 0-01", "2; 00-1", "2; 0-1-1", "2; -0-1", "2; +0-1", "2; 0-+1",
                     "2; 0", "2; 0-", "2; -1", "2; -", "2; 01", "2; 0-1\n", "2;\n0-1", "2;\t0-1", "2; 0-1 ", "2; 0-1; 2",
                     "02; 0-1", "+2; 0-1", "2; 0-1, 0-1", "2; 0-1 0-1", "2; 0-1;0-1", "2; ; 0-1", "2; 0-1; ; 0-1"):
            with self.subTest(text):
                self.refused(text)

    def test_beyond_the_bounds(self):
        for text in ("0; 0-1", "9; 0-1", "10; 0-1", "1; 0-1", "2; 0-2", "2; 1-0", "2; 0-0", "2; 1-1", "3; 2-1", "8; 0-8",
                     "8; 7-8", "8; 0-9", "8; 0-10", "2" + "; 0-1" * 15, "8" + "; 0-1" * 100, "8" + "; 0-1" * 10000,
                     "1" * 6000, "2; 0-" + "1" * 6000):
            with self.subTest(text[:20]):
                self.refused(text)

    def test_of_another_kind(self):
        for k, text in enumerate((*OTHER_KINDS, 1, 2, -1, 10 ** 5000, b"1", bytearray(b"1"), ["1"], ("1",), {"1": 1},
                                  ["2", "0-1"], Web(2, [(0, 1)]), (2, [(0, 1)]))):
            if not isinstance(text, str):
                with self.subTest(k):
                    self.refused(text)


if __name__ == "__main__":
    unittest.main()
