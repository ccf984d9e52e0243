import unittest

from earworks.errors import BadWeb
from earworks.webs import Web
from helper import OTHER_KINDS, Unshowable


class GoodWebs(unittest.TestCase):
    def test_ordinary(self):
        web = Web(3, [(0, 1), (1, 2), (0, 2)])
        self.assertEqual(web.points, 3)
        self.assertEqual(web.ties(), [(0, 1), (1, 2), (0, 2)])

    def test_every_count_of_points(self):
        for points in range(1, 9):
            with self.subTest(points):
                web = Web(points, [])
                self.assertEqual(web.points, points)
                self.assertEqual(web.ties(), [])

    def test_every_count_of_ties(self):
        for many in range(15):
            with self.subTest(many):
                ties = [(0, 1 + k % 7) for k in range(many)]
                self.assertEqual(Web(8, ties).ties(), ties)

    def test_ties_keep_their_order_and_may_join_the_same_two(self):
        ties = [(1, 2), (0, 1), (1, 2), (0, 2), (0, 1)]
        self.assertEqual(Web(3, ties).ties(), ties)
        self.assertEqual(Web(2, [(0, 1)] * 14).ties(), [(0, 1)] * 14)

    def test_every_tie_there_can_be(self):
        for points in range(1, 9):
            for one in range(points):
                for other in range(one + 1, points):
                    self.assertEqual(Web(points, [(one, other)]).ties(), [(one, other)])

    def test_kinds_of_what_is_told(self):
        web = Web(2, [(0, 1)])
        self.assertIs(type(web.points), int)
        self.assertIs(type(web.ties()), list)
        self.assertIs(type(web.ties()[0]), tuple)


class NothingKept(unittest.TestCase):
    def test_list_handed_in_is_not_kept(self):
        ties = [(0, 1)]
        web = Web(3, ties)
        ties.append((1, 2))
        self.assertEqual(web.ties(), [(0, 1)])
        ties.clear()
        self.assertEqual(web.ties(), [(0, 1)])

    def test_list_handed_in_is_not_changed(self):
        ties = [(1, 2), (0, 1), (1, 2)]
        Web(3, ties).ties()
        self.assertEqual(ties, [(1, 2), (0, 1), (1, 2)])

    def test_list_told_is_new_each_time(self):
        web = Web(3, [(0, 1)])
        told = web.ties()
        told.append((1, 2))
        told[0] = (0, 2)
        self.assertEqual(web.ties(), [(0, 1)])
        self.assertIsNot(web.ties(), web.ties())


class NoWebs(unittest.TestCase):
    def refused(self, points, ties):
        with self.assertRaises(BadWeb) as caught:
            Web(points, ties)
        self.assertIs(type(caught.exception), BadWeb)

    def test_points_out_of_bounds(self):
        for points in (0, -1, -8, 9, 10, 100, 10 ** 5000, -10 ** 5000):
            with self.subTest(len(hex(points))):
                self.refused(points, [])

    def test_points_of_another_kind(self):
        for k, points in enumerate(OTHER_KINDS):
            with self.subTest(k):
                self.refused(points, [])
                self.refused(points, [(0, 1)])

    def test_too_many_ties(self):
        self.refused(2, [(0, 1)] * 15)
        self.refused(8, [(0, 1)] * 16)
        self.refused(8, [(k % 7, 7) for k in range(15)])
        self.refused(8, [(0, 1)] * 1000)

    def test_ties_of_another_kind(self):
        for k, ties in enumerate(OTHER_KINDS):
            if not isinstance(ties, list):
                with self.subTest(k):
                    self.refused(2, ties)
        self.refused(2, ((0, 1),))
        self.refused(2, {(0, 1)})
        self.refused(2, {(0, 1): True})
        self.refused(2, 0)

    def test_tie_of_another_kind(self):
        for k, tie in enumerate(OTHER_KINDS):
            with self.subTest(k):
                self.refused(3, [tie])
                self.refused(3, [(0, 1), tie])
                self.refused(3, [tie, (0, 1)])
        self.refused(3, [0])
        self.refused(3, [[0, 1]])
        self.refused(3, [{0, 1}])

    def test_tie_not_of_two(self):
        for tie in ((), (0,), (0, 1, 2), (0, 1, 1), (0, 1, 2, 3)):
            with self.subTest(tie):
                self.refused(4, [tie])

    def test_tie_with_a_point_of_another_kind(self):
        for k, point in enumerate(OTHER_KINDS):
            with self.subTest(k):
                self.refused(3, [(0, point)])
                self.refused(3, [(point, 2)])
                self.refused(3, [(point, point)])

    def test_tie_with_a_point_that_there_is_not(self):
        for tie in ((0, 3), (2, 3), (-1, 0), (-1, 2), (-2, -1), (3, 4), (0, 8), (0, 10 ** 5000), (-10 ** 5000, 0)):
            with self.subTest(len(repr([hex(point) for point in tie]))):
                self.refused(3, [tie])
        self.refused(1, [(0, 1)])
        self.refused(8, [(0, 8)])

    def test_tie_of_the_same_point_twice(self):
        for point in range(3):
            with self.subTest(point):
                self.refused(3, [(point, point)])

    def test_tie_with_the_greater_point_first(self):
        for tie in ((1, 0), (2, 0), (2, 1)):
            with self.subTest(tie):
                self.refused(3, [tie])

    def test_one_bad_tie_anywhere(self):
        for place in range(14):
            with self.subTest(place):
                ties = [(0, 1)] * 14
                ties[place] = (1, 0)
                self.refused(2, ties)

    def test_a_list_within_itself(self):
        ties = []
        ties.append(ties)
        self.refused(3, ties)

    def test_both_wrong(self):
        self.refused(None, None)
        self.refused(0, [(0, 0)])
        self.refused(Unshowable(), Unshowable())


if __name__ == "__main__":
    unittest.main()
