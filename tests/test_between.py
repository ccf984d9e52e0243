import unittest

from earworks.answers import Numbers, Part, Pocket, Wall, Ways
from earworks.between import apart, numbered, ways
from earworks.errors import BadCount, BadPoint, Tied
from earworks.webs import Web
from helper import (OTHER_KINDS, gone_ties, good_numbers, good_part, good_pocket, good_wall, good_ways, inner_points,
                    larger_webs, least_part, least_wall, most_ways, small_webs, some_numbers, some_pocket, spoil,
                    told_by, two_points, untied_points, without_tie)

TRIANGLE = Web(3, [(0, 1), (1, 2), (0, 2)])
ROW = Web(4, [(0, 1), (1, 2), (2, 3)])
SQUARE = Web(4, [(0, 1), (1, 2), (2, 3), (0, 3)])
BOW = Web(5, [(0, 1), (1, 2), (0, 2), (2, 3), (3, 4), (2, 4)])
SIX_BETWEEN = Web(8, [(one, other) for one in (0, 1) for other in range(2, 8)])
CUBE = Web(8, [(k, k ^ bit) for k in range(8) for bit in (1, 2, 4) if k < k ^ bit])
FAR = 10 ** 5000
SIZES = ((2, 6), (3, 5), (4, 5), (5, 3))


class Asked(unittest.TestCase):
    """Asks, holds what is told against the document's words and the answer's own truth, and tells it on."""

    def holds(self, web, asked, words, truth):
        if not words or truth is not True:
            self.fail(f"words {words}, truth {truth}: {web.points} {web.ties()} {asked}")

    def numbered(self, web, one, other):
        told = numbered(web, one, other)
        if type(told) is Numbers:
            words = good_numbers(web, told.points, one, other)
        else:
            self.assertIs(type(told), Pocket)
            words = good_pocket(web, told.points, told.door, one, other)
        self.holds(web, (one, other), words, told.shows(web, one, other))
        return told

    def ways(self, web, one, other, many):
        told = ways(web, one, other, many)
        if type(told) is Ways:
            words = good_ways(web, told.ways, one, other, many, inner_points)
        else:
            self.assertIs(type(told), Wall)
            words = good_wall(web, told.points, one, other, many)
        self.holds(web, (one, other, many), words, told.shows(web, one, other, many))
        return told

    def apart(self, web, one, other, many):
        told = apart(web, one, other, many)
        if type(told) is Ways:
            words = good_ways(web, told.ways, one, other, many, gone_ties)
            truth = told.ties_apart(web, one, other, many)
        else:
            self.assertIs(type(told), Part)
            words = good_part(web, told.points, one, other, many)
            truth = told.shows(web, one, other, many)
        self.holds(web, (one, other, many), words, truth)
        return told


class Known(Asked):
    def test_numbers_of_two_points(self):
        for many in range(15):
            web = Web(2, [(0, 1)] * many)
            self.assertEqual(self.numbered(web, 0, 1).points, [0, 1])
            self.assertEqual(self.numbered(web, 1, 0).points, [1, 0])

    def test_numbers_along_a_row(self):
        self.assertEqual(self.numbered(ROW, 0, 3).points, [0, 1, 2, 3])
        self.assertEqual(self.numbered(ROW, 3, 0).points, [3, 2, 1, 0])

    def test_pockets_of_a_row(self):
        told = self.numbered(ROW, 1, 3)
        self.assertEqual((type(told), told.points, told.door), (Pocket, [0], 1))
        told = self.numbered(ROW, 2, 0)
        self.assertEqual((type(told), told.points, told.door), (Pocket, [3], 2))
        self.assertIs(type(self.numbered(ROW, 1, 2)), Pocket)

    def test_a_third_point_as_door(self):
        told = self.numbered(BOW, 0, 1)
        self.assertEqual((type(told), told.points, told.door), (Pocket, [3, 4], 2))

    def test_numbers_through_a_joint(self):
        for one, other in ((0, 3), (3, 0), (1, 4), (4, 1)):
            self.assertIs(type(self.numbered(BOW, one, other)), Numbers)
        self.assertIs(type(self.numbered(BOW, 2, 4)), Pocket)

    def test_no_ties(self):
        for points in range(3, 9):
            for one, other in two_points(Web(points, [])):
                self.assertIs(type(self.numbered(Web(points, []), one, other)), Pocket)
                self.assertEqual(self.ways(Web(points, []), one, other, 1).points, [])
                self.assertIs(type(self.apart(Web(points, []), one, other, 1)), Part)

    def test_ways_of_a_square(self):
        self.assertIs(type(self.ways(SQUARE, 0, 2, 1)), Ways)
        self.assertIs(type(self.ways(SQUARE, 0, 2, 2)), Ways)
        self.assertEqual(self.ways(SQUARE, 0, 2, 3).points, [1, 3])
        self.assertEqual(self.ways(SQUARE, 3, 1, 8).points, [0, 2])

    def test_six_ways_and_no_more(self):
        for many in range(1, 7):
            self.assertIs(type(self.ways(SIX_BETWEEN, 0, 1, many)), Ways)
        for many in (7, 8):
            self.assertEqual(self.ways(SIX_BETWEEN, 1, 0, many).points, [2, 3, 4, 5, 6, 7])

    def test_ways_that_must_make_room(self):
        for one in range(8):
            self.assertIs(type(self.ways(CUBE, one, 7 - one, 3)), Ways)
            self.assertIs(type(self.ways(CUBE, one, 7 - one, 4)), Wall)

    def test_ways_through_one_point(self):
        self.assertEqual(self.ways(BOW, 0, 3, 2).points, [2])
        self.assertIs(type(self.apart(BOW, 0, 3, 2)), Ways)
        self.assertIs(type(self.apart(BOW, 0, 3, 3)), Part)

    def test_fourteen_ways_by_ties(self):
        for many in range(1, 15):
            web = Web(2, [(0, 1)] * many)
            for count in range(1, 15):
                for one, other in ((0, 1), (1, 0)):
                    told = self.apart(web, one, other, count)
                    self.assertIs(type(told), Ways if count <= many else Part)
                    if count > many:
                        self.assertEqual(told.points, [one])


class SmallWebs(Asked):
    def just(self, web, asked, first, there, other_there):
        if first != there or first == other_there:
            self.fail(f"told {first}, there {there} and {other_there}: {web.points} {web.ties()} {asked}")

    def test_numbers_or_a_pocket(self):
        for web in small_webs(2, SIZES):
            for one, other in two_points(web):
                told = self.numbered(web, one, other)
                self.just(web, (one, other), type(told) is Numbers, some_numbers(web, one, other),
                          some_pocket(web, one, other))

    def test_ways_or_a_wall(self):
        for web in small_webs(2, SIZES):
            for one, other in untied_points(web):
                most = most_ways(web, one, other, inner_points)
                least = least_wall(web, one, other)
                for many in range(1, 9):
                    told = self.ways(web, one, other, many)
                    self.just(web, (one, other, many), type(told) is Ways, many <= most, least < many)

    def test_ways_with_ties_apart_or_a_part(self):
        for web in small_webs(2, SIZES):
            for one, other in two_points(web):
                most = most_ways(web, one, other, gone_ties)
                least = least_part(web, one, other)
                for many in range(1, 15):
                    told = self.apart(web, one, other, many)
                    self.just(web, (one, other, many), type(told) is Ways, many <= most, least < many)


class LargerWebs(Asked):
    """Every two points have their turn with the web as it is, and with one tie less, each time another."""

    def with_and_without_a_tie(self, chosen, ask):
        for web in larger_webs(20):
            for turn, (one, other) in enumerate(chosen(web)):
                ask(web, one, other)
                if web.ties():
                    ask(without_tie(web, turn % len(web.ties())), one, other)

    def test_numbered(self):
        def ask(web, one, other):
            told = told_by(self.numbered(web, one, other))
            self.assertEqual(told_by(self.numbered(web, one, other)), told)

        self.with_and_without_a_tie(two_points, ask)

    def test_ways(self):
        def ask(web, one, other):
            for many in range(1, 9):
                self.ways(web, one, other, many)

        self.with_and_without_a_tie(untied_points, ask)

    def test_apart(self):
        def ask(web, one, other):
            for many in range(1, 15):
                self.apart(web, one, other, many)

        self.with_and_without_a_tie(two_points, ask)


class WhatIsToldIsNew(unittest.TestCase):
    WEBS = (TRIANGLE, ROW, SQUARE, BOW, SIX_BETWEEN, CUBE, Web(2, [(0, 1)] * 3), Web(8, []))

    def test_numbered(self):
        for web in self.WEBS:
            for one, other in two_points(web):
                spoil(self, web, lambda: numbered(web, one, other))

    def test_ways(self):
        for web in self.WEBS:
            for one, other in untied_points(web):
                for many in (1, 2, 3, 8):
                    spoil(self, web, lambda: ways(web, one, other, many))

    def test_apart(self):
        for web in self.WEBS:
            for one, other in two_points(web):
                for many in (1, 2, 3, 14):
                    spoil(self, web, lambda: apart(web, one, other, many))


class Refused(Asked):
    def refused(self, kind, ask, *handed):
        with self.assertRaises(kind) as caught:
            ask(*handed)
        self.assertIs(type(caught.exception), kind)

    def bad_points(self, web, one, other):
        self.refused(BadPoint, numbered, web, one, other)
        for many in (1, 8, 0, 9, None):
            self.refused(BadPoint, ways, web, one, other, many)
        for many in (1, 14, 0, 15, None):
            self.refused(BadPoint, apart, web, one, other, many)

    def test_points_that_there_are_not(self):
        for web in (Web(1, []), Web(2, [(0, 1)]), TRIANGLE, CUBE):
            for point in (-1, -2, -web.points, web.points, web.points + 1, FAR, -FAR):
                for good in range(web.points):
                    self.bad_points(web, point, good)
                    self.bad_points(web, good, point)
                self.bad_points(web, point, point)
                self.bad_points(web, point, -1)

    def test_the_same_point_twice(self):
        for web in (Web(1, []), Web(2, []), TRIANGLE, CUBE):
            for point in range(web.points):
                self.bad_points(web, point, point)

    def test_points_of_another_kind(self):
        for k, point in enumerate((*OTHER_KINDS, "0", "01", [0], (0, 1), [0, 1], 0.0)):
            for web in (Web(1, []), Web(3, []), TRIANGLE):
                with self.subTest(k):
                    for good in range(web.points):
                        self.bad_points(web, point, good)
                        self.bad_points(web, good, point)
                    self.bad_points(web, point, point)
                    self.bad_points(web, point, -1)
                    self.bad_points(web, FAR, point)

    def test_tied_points(self):
        for web in (Web(2, [(0, 1)]), Web(2, [(0, 1)] * 14), TRIANGLE, ROW, CUBE):
            for one, other in web.ties():
                for many in (1, 2, 8, 0, -1, 9, FAR, *OTHER_KINDS):
                    self.refused(Tied, ways, web, one, other, many)
                    self.refused(Tied, ways, web, other, one, many)

    def test_tied_points_are_good_elsewhere(self):
        for web in (Web(2, [(0, 1)]), TRIANGLE, ROW, CUBE):
            for one, other in web.ties():
                self.numbered(web, one, other)
                self.numbered(web, other, one)
                self.assertIs(type(self.apart(web, one, other, 1)), Ways)
                self.assertIs(type(self.apart(web, other, one, 1)), Ways)

    def test_counts(self):
        for one, other in ((0, 2), (2, 0)):
            for many in (0, -1, -8, 9, 10, 14, 15, FAR, -FAR):
                self.refused(BadCount, ways, SQUARE, one, other, many)
            for many in (0, -1, -14, 15, 16, 100, FAR, -FAR):
                self.refused(BadCount, apart, SQUARE, one, other, many)
                self.refused(BadCount, apart, TRIANGLE, one, other, many)

    def test_counts_of_another_kind(self):
        for k, many in enumerate((*OTHER_KINDS, "1", [2], (1, 2), 2.0)):
            with self.subTest(k):
                self.refused(BadCount, ways, SQUARE, 0, 2, many)
                self.refused(BadCount, apart, SQUARE, 0, 2, many)
                self.refused(BadCount, apart, TRIANGLE, 0, 2, many)

    def test_good_counts(self):
        for many in range(1, 9):
            self.ways(SQUARE, 0, 2, many)
        for many in range(1, 15):
            self.apart(SQUARE, 0, 2, many)


if __name__ == "__main__":
    unittest.main()
