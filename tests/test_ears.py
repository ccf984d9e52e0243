import unittest

from earworks.answers import Bar, Ears, Joint, Turned
from earworks.ears import eared, open_eared, turned
from earworks.errors import TooFew
from earworks.webs import Web
from helper import (good_bar, good_ears, good_joint, good_turned, larger_webs, small_webs, some_bar, some_ears,
                    some_joint, some_turned, spoil, told_by, without_tie)

TWICE = Web(2, [(0, 1), (0, 1)])
TRIANGLE = Web(3, [(0, 1), (1, 2), (0, 2)])
ROW = Web(3, [(0, 1), (1, 2)])
BOW = Web(5, [(0, 1), (1, 2), (0, 2), (2, 3), (3, 4), (2, 4)])
SPECTACLES = Web(6, [(0, 1), (1, 2), (0, 2), (2, 3), (3, 4), (4, 5), (3, 5)])
SHAKEN = Web(5, [(0, 1), (1, 2), (0, 2), (3, 4), (3, 4)])


class Asked(unittest.TestCase):
    """Asks, holds what is told against the document's words and the answer's own truth, and tells it on."""

    def holds(self, web, words, truth):
        if not words or truth is not True:
            self.fail(f"words {words}, truth {truth}: {web.points} {web.ties()}")

    def eared(self, web):
        told = eared(web)
        if type(told) is Ears:
            self.holds(web, good_ears(web, told.ears, False), told.shows(web))
        else:
            self.assertIs(type(told), Bar)
            self.holds(web, good_bar(web, told.points), told.shows(web))
        return told

    def turned(self, web):
        told = turned(web)
        if type(told) is Turned:
            self.holds(web, good_turned(web, told.begins), told.shows(web))
        else:
            self.assertIs(type(told), Bar)
            self.holds(web, good_bar(web, told.points), told.shows(web))
        return told

    def open_eared(self, web):
        told = open_eared(web)
        if type(told) is Ears:
            self.holds(web, good_ears(web, told.ears, True), told.shows(web) and told.all_ways(web))
        else:
            self.assertIs(type(told), Joint)
            self.holds(web, good_joint(web, told.point, told.others), told.shows(web))
        return told


class Known(Asked):
    def test_two_points(self):
        for many in range(15):
            with self.subTest(many):
                web = Web(2, [(0, 1)] * many)
                self.assertIs(type(self.eared(web)), Ears if many > 1 else Bar)
                self.assertIs(type(self.turned(web)), Turned if many > 1 else Bar)

    def test_one_ring_is_one_ear(self):
        for points in range(3, 9):
            with self.subTest(points):
                web = Web(points, [(k, k + 1) for k in range(points - 1)] + [(0, points - 1)])
                self.assertEqual(len(self.eared(web).ears), 1)
                self.assertEqual(len(self.open_eared(web).ears), 1)
                self.assertIs(type(self.turned(web)), Turned)

    def test_a_row_has_a_bar_and_a_joint(self):
        self.assertIs(type(self.eared(ROW)), Bar)
        self.assertIs(type(self.turned(ROW)), Bar)
        told = self.open_eared(ROW)
        self.assertEqual((type(told), told.point), (Joint, 1))

    def test_rings_with_one_point_in_common_have_a_joint_but_no_bar(self):
        self.assertEqual(len(self.eared(BOW).ears), 2)
        self.assertIs(type(self.turned(BOW)), Turned)
        told = self.open_eared(BOW)
        self.assertEqual((type(told), told.point), (Joint, 2))
        self.assertIn(told.others, ([0, 1], [3, 4]))

    def test_rings_with_one_tie_between_have_a_bar(self):
        for told in (self.eared(SPECTACLES), self.turned(SPECTACLES)):
            self.assertIs(type(told), Bar)
            self.assertIn(told.points, ([0, 1, 2], [3, 4, 5]))
        self.assertIn(self.open_eared(SPECTACLES).point, (2, 3))

    def test_rings_apart_have_a_bar(self):
        for told in (self.eared(SHAKEN), self.turned(SHAKEN)):
            self.assertIs(type(told), Bar)
            self.assertIn(told.points, ([0, 1, 2], [3, 4]))
        self.assertIs(type(self.open_eared(SHAKEN)), Joint)

    def test_no_ties(self):
        for points in range(2, 9):
            with self.subTest(points):
                self.assertIs(type(self.eared(Web(points, []))), Bar)
                self.assertIs(type(self.turned(Web(points, []))), Bar)
                if points > 2:
                    self.assertIs(type(self.open_eared(Web(points, []))), Joint)

    def test_several_ties_between_the_same_two(self):
        web = Web(3, [(0, 1), (0, 1), (1, 2), (1, 2)])
        self.assertEqual(len(self.eared(web).ears), 2)
        self.assertEqual(self.open_eared(web).point, 1)
        web = Web(3, [(0, 1)] * 3 + [(1, 2)] * 3 + [(0, 2)] * 3)
        self.assertEqual(len(self.open_eared(web).ears), 7)


class SmallWebs(Asked):
    def just(self, web, first, there, other_there):
        if first != there or first == other_there:
            self.fail(f"told {first}, there {there} and {other_there}: {web.points} {web.ties()}")

    def test_ears_or_a_bar(self):
        for web in small_webs(2):
            self.just(web, type(self.eared(web)) is Ears, some_ears(web, False), some_bar(web))

    def test_turned_or_a_bar(self):
        for web in small_webs(2):
            self.just(web, type(self.turned(web)) is Turned, some_turned(web), some_bar(web))

    def test_ears_that_are_ways_or_a_joint(self):
        for web in small_webs(3):
            self.just(web, type(self.open_eared(web)) is Ears, some_ears(web, True), some_joint(web))


class LargerWebs(Asked):
    def with_and_without_each_tie(self, least, ask):
        for web in larger_webs(60):
            if web.points >= least:
                told = told_by(ask(web))
                for place in range(len(web.ties())):
                    ask(without_tie(web, place))
                self.assertEqual(told_by(ask(web)), told)

    def test_eared(self):
        self.with_and_without_each_tie(2, self.eared)

    def test_turned(self):
        self.with_and_without_each_tie(2, self.turned)

    def test_open_eared(self):
        self.with_and_without_each_tie(3, self.open_eared)


class WhatIsToldIsNew(unittest.TestCase):
    def test_changed_behind(self):
        for web in (TRIANGLE, ROW, BOW, SPECTACLES, SHAKEN, Web(8, []), *larger_webs(5)):
            spoil(self, web, lambda: eared(web))
            spoil(self, web, lambda: turned(web))
            if web.points > 2:
                spoil(self, web, lambda: open_eared(web))

    def test_two_points(self):
        for web in (TWICE, Web(2, [(0, 1)]), Web(2, [])):
            spoil(self, web, lambda: eared(web))
            spoil(self, web, lambda: turned(web))


class Refused(Asked):
    def refused(self, ask, web):
        with self.assertRaises(TooFew) as caught:
            ask(web)
        self.assertIs(type(caught.exception), TooFew)

    def test_one_point(self):
        for ask in (eared, turned, open_eared):
            with self.subTest(ask.__name__):
                self.refused(ask, Web(1, []))

    def test_two_points(self):
        for many in range(15):
            with self.subTest(many):
                self.refused(open_eared, Web(2, [(0, 1)] * many))

    def test_enough_points(self):
        for points in range(2, 9):
            self.eared(Web(points, []))
            self.turned(Web(points, []))
        for points in range(3, 9):
            self.open_eared(Web(points, []))


if __name__ == "__main__":
    unittest.main()
