import unittest

from earworks import answers
from earworks.answers import Answer, Bar, Ears, Joint, Numbers, Part, Pocket, Turned, Wall, Ways
from earworks.webs import Web

LONE = Web(1, [])
PAIR = Web(2, [(0, 1)])
TWICE = Web(2, [(0, 1), (0, 1)])
TRIANGLE = Web(3, [(0, 1), (1, 2), (0, 2)])
ROW = Web(3, [(0, 1), (1, 2)])
LONG_ROW = Web(4, [(0, 1), (1, 2), (2, 3)])
SQUARE = Web(4, [(0, 1), (1, 2), (2, 3), (0, 3)])
CROSSED = Web(4, [(0, 1), (1, 2), (2, 3), (0, 3), (0, 2)])
BOW = Web(5, [(0, 1), (1, 2), (0, 2), (2, 3), (3, 4), (2, 4)])

FAR = 10 ** 30


class Truths(unittest.TestCase):
    def true(self, told):
        self.assertIs(told, True)

    def false(self, told):
        self.assertIs(told, False)

    def none_show(self, lists, truth):
        for numbers in lists:
            with self.subTest(numbers):
                self.false(truth(numbers))


class TheClasses(unittest.TestCase):
    def test_each_stands_straight_under_answer(self):
        for name in ("Ears", "Bar", "Joint", "Turned", "Numbers", "Pocket", "Ways", "Wall", "Part"):
            with self.subTest(name):
                self.assertEqual(getattr(answers, name).__bases__, (Answer,))


class TheFields(unittest.TestCase):
    def test_sets_and_lists_of_numbers(self):
        for make, name in ((Bar, "points"), (lambda xs: Joint(0, xs), "others"), (Turned, "begins"),
                           (Numbers, "points"), (lambda xs: Pocket(xs, 0), "points"), (Wall, "points"),
                           (Part, "points")):
            for numbers in ([], [0], [2, 1, 1, -5, FAR]):
                with self.subTest((name, numbers)):
                    handed = list(numbers)
                    answer = make(handed)
                    self.assertEqual(getattr(answer, name), numbers)
                    self.assertIs(type(getattr(answer, name)), list)
                    handed.append(7)
                    self.assertEqual(getattr(answer, name), numbers)
                    getattr(answer, name).append(8)
                    self.assertEqual(handed, numbers + [7])

    def test_point_and_door(self):
        for number in (0, 3, -1, FAR):
            self.assertEqual(Joint(number, [1]).point, number)
            self.assertEqual(Pocket([1], number).door, number)

    def test_walks(self):
        for make, name in ((Ears, "ears"), (Ways, "ways")):
            for walks in ([], [([], [])], [([0, 1, 0], [0, 1]), ([-1], [FAR, 2])]):
                with self.subTest((name, walks)):
                    handed = [(list(points), list(places)) for points, places in walks]
                    answer = make(handed)
                    self.assertEqual(getattr(answer, name), walks)
                    self.assertIs(type(getattr(answer, name)), list)
                    for walk in getattr(answer, name):
                        self.assertIs(type(walk), tuple)
                    for points, places in handed:
                        points.append(5)
                        places.append(6)
                    handed.append(([1], []))
                    self.assertEqual(getattr(answer, name), walks)

    def test_walks_handed_in_do_not_change_with_the_field(self):
        for make, name in ((Ears, "ears"), (Ways, "ways")):
            handed = [([0, 1], [0])]
            field = getattr(make(handed), name)
            field[0][0].append(5)
            field[0][1].clear()
            field.append(([], []))
            self.assertEqual(handed, [([0, 1], [0])])

    def test_asking_changes_nothing(self):
        ears = Ears([([0, 1, 2, 3, 0], [0, 1, 2, 3]), ([0, 2], [4])])
        ears.shows(CROSSED)
        ears.all_ways(CROSSED)
        self.assertEqual(ears.ears, [([0, 1, 2, 3, 0], [0, 1, 2, 3]), ([0, 2], [4])])
        ways = Ways([([0, 3, 2], [3, 2]), ([0, 1, 2], [0, 1])])
        ways.shows(SQUARE, 0, 2, 2)
        ways.ties_apart(SQUARE, 0, 2, 2)
        self.assertEqual(ways.ways, [([0, 3, 2], [3, 2]), ([0, 1, 2], [0, 1])])
        numbers = Numbers([0, 2, 1])
        numbers.shows(TRIANGLE, 0, 1)
        self.assertEqual(numbers.points, [0, 2, 1])
        turned = Turned([2, 0, 1])
        turned.shows(TRIANGLE)
        self.assertEqual(turned.begins, [2, 0, 1])
        for answer in (Bar([2, 0, 0]), Pocket([2, 0, 0], 1), Wall([2, 0, 0]), Part([2, 0, 0])):
            if isinstance(answer, Bar):
                answer.shows(TRIANGLE)
            elif isinstance(answer, Pocket):
                answer.shows(TRIANGLE, 0, 1)
            else:
                answer.shows(TRIANGLE, 0, 1, 1)
            self.assertEqual(answer.points, [2, 0, 0])
        self.assertEqual(CROSSED.ties(), [(0, 1), (1, 2), (2, 3), (0, 3), (0, 2)])
        self.assertEqual(TRIANGLE.ties(), [(0, 1), (1, 2), (0, 2)])


class FieldsAsTheyStand(Truths):
    def test_ears(self):
        ears = Ears([([0, 1, 2, 3, 0], [0, 1, 2, 3])])
        self.false(ears.shows(CROSSED))
        self.false(ears.all_ways(CROSSED))
        ears.ears.append(([0, 2], [4]))
        self.true(ears.shows(CROSSED))
        self.true(ears.all_ways(CROSSED))
        ears.ears[1][0][1] = 1
        self.false(ears.shows(CROSSED))
        self.false(ears.all_ways(CROSSED))
        ears.ears = [([0, 1, 0], [0, 1])]
        self.true(ears.shows(TWICE))

    def test_bar(self):
        bar = Bar([])
        self.false(bar.shows(ROW))
        bar.points.append(0)
        self.true(bar.shows(ROW))
        bar.points = [1]
        self.false(bar.shows(ROW))

    def test_joint(self):
        joint = Joint(0, [0])
        self.false(joint.shows(ROW))
        joint.point = 1
        self.true(joint.shows(ROW))
        joint.others = [0, 2]
        self.false(joint.shows(ROW))

    def test_turned(self):
        turned = Turned([0, 1])
        self.false(turned.shows(TRIANGLE))
        turned.begins.append(2)
        self.true(turned.shows(TRIANGLE))
        turned.begins = [0, 1, 0]
        self.false(turned.shows(TRIANGLE))

    def test_numbers(self):
        numbers = Numbers([0, 1])
        self.false(numbers.shows(ROW, 0, 2))
        numbers.points.append(2)
        self.true(numbers.shows(ROW, 0, 2))
        numbers.points = [0, 2, 1]
        self.false(numbers.shows(ROW, 0, 2))

    def test_pocket(self):
        pocket = Pocket([2], 0)
        self.false(pocket.shows(ROW, 0, 1))
        pocket.door = 1
        self.true(pocket.shows(ROW, 0, 1))
        pocket.points.clear()
        self.false(pocket.shows(ROW, 0, 1))

    def test_ways(self):
        ways = Ways([([0, 1, 2], [0, 1])])
        self.false(ways.shows(SQUARE, 0, 2, 2))
        self.false(ways.ties_apart(SQUARE, 0, 2, 2))
        ways.ways.append(([0, 3, 2], [3, 2]))
        self.true(ways.shows(SQUARE, 0, 2, 2))
        self.true(ways.ties_apart(SQUARE, 0, 2, 2))
        ways.ways[1][1].reverse()
        self.false(ways.shows(SQUARE, 0, 2, 2))
        self.false(ways.ties_apart(SQUARE, 0, 2, 2))

    def test_wall(self):
        wall = Wall([1])
        self.false(wall.shows(SQUARE, 0, 2, 3))
        wall.points.append(3)
        self.true(wall.shows(SQUARE, 0, 2, 3))
        wall.points = [3, 1]
        self.false(wall.shows(SQUARE, 0, 2, 3))

    def test_part(self):
        part = Part([])
        self.false(part.shows(SQUARE, 0, 2, 3))
        part.points.append(0)
        self.true(part.shows(SQUARE, 0, 2, 3))
        part.points = [0, 2]
        self.false(part.shows(SQUARE, 0, 2, 5))


class EarsShow(Truths):
    def ears(self, web, ears):
        self.true(Ears(ears).shows(web))

    def no_ears(self, web, ears):
        self.false(Ears(ears).shows(web))
        self.false(Ears(ears).all_ways(web))

    def test_one_ring(self):
        self.ears(TRIANGLE, [([0, 1, 2, 0], [0, 1, 2])])
        self.ears(TRIANGLE, [([2, 1, 0, 2], [1, 0, 2])])
        self.ears(TWICE, [([0, 1, 0], [0, 1])])
        self.ears(TWICE, [([1, 0, 1], [1, 0])])

    def test_a_ring_and_a_way(self):
        for ears in ([([0, 1, 2, 3, 0], [0, 1, 2, 3]), ([0, 2], [4])],
                     [([0, 1, 2, 3, 0], [0, 1, 2, 3]), ([2, 0], [4])],
                     [([2, 0, 1, 2], [4, 0, 1]), ([0, 3, 2], [3, 2])]):
            self.ears(CROSSED, ears)
            self.true(Ears(ears).all_ways(CROSSED))

    def test_a_ring_behind_a_ring_is_an_ear_but_not_an_open_one(self):
        ears = Ears([([0, 1, 2, 0], [0, 1, 2]), ([2, 3, 4, 2], [3, 4, 5])])
        self.true(ears.shows(BOW))
        self.false(ears.all_ways(BOW))
        twice_two = Web(3, [(0, 1), (0, 1), (1, 2), (1, 2)])
        ears = Ears([([0, 1, 0], [0, 1]), ([1, 2, 1], [3, 2])])
        self.true(ears.shows(twice_two))
        self.false(ears.all_ways(twice_two))

    def test_a_way_behind_a_ring_that_is_not_open(self):
        web = Web(4, [(0, 1), (1, 2), (0, 2), (2, 3), (2, 3), (2, 3)])
        ears = Ears([([0, 1, 2, 0], [0, 1, 2]), ([2, 3, 2], [3, 4]), ([2, 3], [5])])
        self.true(ears.shows(web))
        self.false(ears.all_ways(web))

    def test_at_the_bounds(self):
        ring = (list(range(8)) + [0], list(range(8)))
        web = Web(8, [(k, k + 1) for k in range(7)] + [(0, 7)] + [(0, 2), (0, 3), (0, 4), (0, 5), (0, 6), (0, 6)])
        ears = Ears([ring] + [([0, k], [k + 6]) for k in range(2, 7)] + [([6, 0], [13])])
        self.true(ears.shows(web))
        self.true(ears.all_ways(web))

    def test_no_ears_at_all(self):
        for web in (LONE, PAIR, TWICE, TRIANGLE):
            self.no_ears(web, [])

    def test_first_is_a_way(self):
        self.no_ears(TRIANGLE, [([0, 1], [0]), ([1, 2, 0], [1, 2])])
        self.no_ears(TRIANGLE, [([0, 1, 2], [0, 1]), ([2, 0], [2])])
        self.no_ears(PAIR, [([0, 1], [0])])

    def test_first_is_a_lone_point(self):
        self.no_ears(LONE, [([0], [])])
        self.no_ears(TRIANGLE, [([0], []), ([0, 1, 2, 0], [0, 1, 2])])

    def test_first_goes_a_tie_twice(self):
        self.no_ears(PAIR, [([0, 1, 0], [0, 0])])
        self.no_ears(TWICE, [([0, 1, 0], [0, 0])])
        self.no_ears(TWICE, [([0, 1, 0], [0, 0]), ([0, 1], [1])])

    def test_first_comes_to_a_point_twice(self):
        self.no_ears(BOW, [([0, 1, 2, 3, 4, 2, 0], [0, 1, 3, 4, 5, 2])])
        self.no_ears(Web(2, [(0, 1)] * 4), [([0, 1, 0, 1, 0], [0, 1, 2, 3])])

    def test_walk_that_does_not_fit_its_ties(self):
        self.no_ears(TRIANGLE, [([0, 2, 1, 0], [0, 1, 2])])
        self.no_ears(TRIANGLE, [([0, 1, 2, 0], [1, 0, 2])])
        self.no_ears(TRIANGLE, [([0, 1, 2, 0], [0, 2, 1])])
        self.no_ears(CROSSED, [([0, 1, 2, 3, 0], [0, 1, 2, 3]), ([0, 3], [4])])
        self.no_ears(CROSSED, [([0, 1, 2, 3, 0], [0, 1, 2, 3]), ([1, 2], [4])])

    def test_lists_too_short_or_too_long(self):
        for walk in (([], []), ([], [0, 1, 2]), ([0], [0, 1, 2]), ([0, 1, 2], [0, 1, 2]), ([1, 2, 0], [0, 1, 2]),
                     ([0, 1, 2, 0, 1], [0, 1, 2]), ([0, 1, 2, 0], [0, 1]), ([0, 1, 2, 0], []),
                     ([0, 1, 2, 0], [0, 1, 2, 0]), ([0, 1, 2, 0, 0], [0, 1, 2])):
            with self.subTest(walk):
                self.no_ears(TRIANGLE, [walk])
        ring = ([0, 1, 2, 3, 0], [0, 1, 2, 3])
        for walk in (([], []), ([], [4]), ([0], [4]), ([2], [4]), ([0, 2, 0], [4]), ([0, 2, 1], [4])):
            with self.subTest(walk):
                self.no_ears(CROSSED, [ring, walk])

    def test_places_that_there_are_not(self):
        for place in (-1, -3, 3, 4, FAR, -FAR):
            with self.subTest(place):
                self.no_ears(TRIANGLE, [([0, 1, 2, 0], [0, 1, place])])
                self.no_ears(TRIANGLE, [([0, 1, 2, 0], [place, 1, 2])])
        for place in (-1, 5, 6, FAR):
            with self.subTest(place):
                self.no_ears(CROSSED, [([0, 1, 2, 3, 0], [0, 1, 2, 3]), ([0, 2], [place])])

    def test_points_that_there_are_not(self):
        for point in (-1, -2, 3, 4, FAR, -FAR):
            with self.subTest(point):
                self.no_ears(TRIANGLE, [([0, 1, point, 0], [0, 1, 2])])
                self.no_ears(TRIANGLE, [([point, 1, 2, 0], [0, 1, 2])])
                self.no_ears(TRIANGLE, [([0, 1, 2, point], [0, 1, 2])])
                self.no_ears(TRIANGLE, [([point, 1, 2, point], [0, 1, 2])])

    def test_further_ear_without_a_tie(self):
        for point in (0, 1, 2, 3, -1):
            with self.subTest(point):
                self.no_ears(TRIANGLE, [([0, 1, 2, 0], [0, 1, 2]), ([point], [])])

    def test_further_ear_that_begins_or_ends_elsewhere(self):
        web = Web(4, [(0, 1), (1, 2), (0, 2), (2, 3), (0, 3)])
        ring = ([0, 1, 2, 0], [0, 1, 2])
        self.ears(web, [ring, ([2, 3, 0], [3, 4])])
        self.no_ears(web, [ring, ([3, 2], [3]), ([3, 0], [4])])
        self.no_ears(web, [ring, ([2, 3], [3]), ([3, 0], [4])])
        self.no_ears(web, [ring, ([2, 3], [3]), ([0, 3], [4])])
        apart = Web(5, [(0, 1), (0, 1), (2, 3), (3, 4), (2, 4)])
        self.no_ears(apart, [([0, 1, 0], [0, 1]), ([2, 3, 4, 2], [2, 3, 4])])

    def test_further_ear_with_another_point_of_those_ahead(self):
        web = Web(4, [(0, 1), (1, 2), (0, 2), (0, 3), (1, 3), (1, 2)])
        ring = ([0, 1, 2, 0], [0, 1, 2])
        self.ears(web, [ring, ([0, 3, 1], [3, 4]), ([1, 2], [5])])
        self.no_ears(web, [ring, ([0, 3, 1, 2], [3, 4, 5])])
        self.no_ears(web, [ring, ([2, 1, 3, 0], [5, 4, 3])])
        twice_round = Web(3, [(0, 1), (1, 2), (0, 2)] * 2)
        self.no_ears(twice_round, [ring, ([0, 1, 2, 0], [3, 4, 5])])

    def test_further_ear_that_is_neither_way_nor_ring(self):
        web = Web(6, [(0, 1), (1, 2), (0, 2), (0, 3), (3, 4), (4, 5), (3, 5), (1, 3)])
        ring = ([0, 1, 2, 0], [0, 1, 2])
        self.ears(web, [ring, ([0, 3, 1], [3, 7]), ([3, 4, 5, 3], [4, 5, 6])])
        self.no_ears(web, [ring, ([0, 3, 4, 5, 3, 1], [3, 4, 5, 6, 7])])
        tail = Web(4, [(0, 1), (1, 2), (0, 2), (0, 3)])
        self.no_ears(tail, [ring, ([0, 3, 0], [3, 3])])
        self.no_ears(tail, [ring, ([0, 3], [3])])

    def test_ears_in_another_order(self):
        self.no_ears(CROSSED, [([0, 2], [4]), ([0, 1, 2, 3, 0], [0, 1, 2, 3])])
        web = Web(5, [(0, 1), (1, 2), (0, 2), (0, 3), (1, 3), (3, 4), (1, 4)])
        ring, first, second = ([0, 1, 2, 0], [0, 1, 2]), ([0, 3, 1], [3, 4]), ([3, 4, 1], [5, 6])
        self.ears(web, [ring, first, second])
        self.no_ears(web, [ring, second, first])

    def test_tie_in_none(self):
        self.no_ears(CROSSED, [([0, 1, 2, 3, 0], [0, 1, 2, 3])])
        self.no_ears(Web(2, [(0, 1)] * 3), [([0, 1, 0], [0, 1])])
        self.no_ears(Web(2, [(0, 1)] * 3), [([0, 1, 0], [1, 2])])

    def test_tie_in_two(self):
        self.no_ears(TWICE, [([0, 1, 0], [0, 1]), ([0, 1], [1])])
        self.no_ears(TWICE, [([0, 1, 0], [0, 1]), ([0, 1], [0])])
        self.no_ears(Web(2, [(0, 1)] * 3), [([0, 1, 0], [0, 1]), ([0, 1], [1])])
        self.no_ears(TRIANGLE, [([0, 1, 2, 0], [0, 1, 2]), ([0, 1, 2, 0], [0, 1, 2])])

    def test_point_in_none(self):
        self.no_ears(Web(3, [(0, 1), (0, 1)]), [([0, 1, 0], [0, 1])])
        self.no_ears(Web(3, [(1, 2), (1, 2)]), [([1, 2, 1], [0, 1])])
        self.no_ears(Web(8, TRIANGLE.ties()), [([0, 1, 2, 0], [0, 1, 2])])


class BarShows(Truths):
    def test_one_tie_leaves(self):
        for points in ([0], [2], [0, 1], [1, 2]):
            self.true(Bar(points).shows(ROW))
        self.true(Bar([0]).shows(PAIR))
        self.true(Bar([1]).shows(PAIR))

    def test_no_tie_leaves(self):
        apart = Web(4, [(0, 2), (0, 2), (1, 3), (1, 3)])
        self.true(Bar([0, 2]).shows(apart))
        self.true(Bar([1, 3]).shows(apart))
        self.true(Bar([0]).shows(Web(2, [])))
        self.true(Bar([0, 2, 7]).shows(Web(8, [])))

    def test_two_ties_leave(self):
        self.none_show([[1], [0, 2]], lambda points: Bar(points).shows(ROW))
        self.none_show([[0], [1]], lambda points: Bar(points).shows(TWICE))
        self.none_show([[0], [1], [2], [0, 1], [0, 2], [1, 2]], lambda points: Bar(points).shows(TRIANGLE))

    def test_none_or_all(self):
        for web in (LONE, PAIR, TWICE, ROW, TRIANGLE, Web(8, [])):
            self.false(Bar([]).shows(web))
            self.false(Bar(list(range(web.points))).shows(web))

    def test_not_rising(self):
        self.none_show([[1, 0], [0, 0], [0, 1, 1], [2, 1], [2, 2], [0, 1, 0]], lambda points: Bar(points).shows(ROW))

    def test_points_that_there_are_not(self):
        self.none_show([[-1], [3], [-1, 0], [0, 3], [0, 1, 3], [-3], [-3, 0], [FAR], [-FAR, 0, 1]],
                       lambda points: Bar(points).shows(ROW))


class JointShows(Truths):
    def test_joints(self):
        self.true(Joint(1, [0]).shows(ROW))
        self.true(Joint(1, [2]).shows(ROW))
        self.true(Joint(2, [0, 1]).shows(BOW))
        self.true(Joint(2, [3, 4]).shows(BOW))
        self.true(Joint(1, [2, 3]).shows(LONG_ROW))

    def test_no_tie_leaves(self):
        self.true(Joint(0, [2]).shows(Web(3, [(0, 1)])))
        self.true(Joint(0, [1]).shows(Web(3, [])))
        self.true(Joint(1, [0, 2, 3, 4, 5, 6]).shows(Web(8, [])))

    def test_several_ties_to_the_point(self):
        self.true(Joint(1, [0]).shows(Web(3, [(0, 1), (0, 1), (1, 2), (1, 2)])))

    def test_a_tie_comes_elsewhere(self):
        for point in range(3):
            for other in range(3):
                self.false(Joint(point, [other]).shows(TRIANGLE))
        self.false(Joint(0, [1]).shows(ROW))
        self.false(Joint(0, [2]).shows(ROW))
        self.false(Joint(2, [0]).shows(BOW))
        self.false(Joint(2, [0, 3]).shows(BOW))

    def test_none_or_all_others(self):
        self.false(Joint(1, []).shows(ROW))
        self.false(Joint(1, [0, 2]).shows(ROW))
        self.false(Joint(2, [0, 1, 3, 4]).shows(BOW))
        self.false(Joint(0, [1]).shows(PAIR))
        self.false(Joint(0, [1]).shows(Web(2, [])))
        self.false(Joint(0, []).shows(LONE))

    def test_the_point_is_no_other(self):
        self.false(Joint(1, [1]).shows(ROW))
        self.false(Joint(1, [0, 1]).shows(ROW))
        self.false(Joint(0, [0]).shows(Web(3, [])))
        self.false(Joint(2, [0, 1, 2]).shows(BOW))

    def test_not_rising(self):
        self.none_show([[1, 0], [0, 0, 1], [0, 1, 1], [4, 3], [3, 3, 4]], lambda others: Joint(2, others).shows(BOW))
        self.none_show([[0, 0], [2, 2]], lambda others: Joint(1, others).shows(LONG_ROW))

    def test_others_that_there_are_not(self):
        self.none_show([[-1], [4], [-1, 0], [0, 4], [2, 3, 4], [-4], [FAR]],
                       lambda others: Joint(1, others).shows(LONG_ROW))

    def test_point_that_there_is_not(self):
        for point in (-1, 3, -3, FAR, -FAR):
            self.none_show([[0], [1], [2], [0, 1], [1, 2]], lambda others: Joint(point, others).shows(Web(3, [])))
            self.false(Joint(point, [0]).shows(ROW))


class TurnedShows(Truths):
    def test_round(self):
        self.true(Turned([0, 1, 2]).shows(TRIANGLE))
        self.true(Turned([1, 2, 0]).shows(TRIANGLE))
        self.true(Turned([0, 1]).shows(TWICE))
        self.true(Turned([1, 0]).shows(TWICE))
        self.true(Turned([0, 1, 2, 2, 3, 4]).shows(BOW))
        self.true(Turned([0, 1, 2, 3, 2]).shows(CROSSED))
        self.true(Turned([0, 1, 2, 3, 0]).shows(CROSSED))

    def test_not_from_each_to_each(self):
        self.none_show([[0, 1, 0], [1, 1, 2], [1, 2, 2], [0, 2, 2], [0, 2, 0], [1, 1, 0]],
                       lambda begins: Turned(begins).shows(TRIANGLE))
        self.none_show([[0, 0], [1, 1]], lambda begins: Turned(begins).shows(TWICE))
        self.none_show([[0], [1]], lambda begins: Turned(begins).shows(PAIR))
        self.none_show([[0, 1, 2, 2, 3, 2], [0, 1, 0, 2, 3, 4]], lambda begins: Turned(begins).shows(BOW))

    def test_points_that_no_tie_comes_to(self):
        self.false(Turned([0, 1, 2]).shows(Web(4, TRIANGLE.ties())))
        self.false(Turned([1, 2, 3]).shows(Web(4, [(1, 2), (2, 3), (1, 3)])))
        self.false(Turned([]).shows(Web(2, [])))
        self.false(Turned([0, 1, 2, 3]).shows(Web(4, [(0, 1), (0, 1), (2, 3), (2, 3)])))

    def test_too_short_or_too_long(self):
        self.none_show([[], [0], [0, 1], [0, 1, 2, 0], [0, 1, 2, 2]], lambda begins: Turned(begins).shows(TRIANGLE))
        self.false(Turned([0, 1, 0]).shows(TWICE))
        self.false(Turned([0, 1]).shows(Web(2, [(0, 1)] * 3)))
        self.false(Turned([0]).shows(LONE))

    def test_begins_that_are_not_of_the_tie(self):
        self.none_show([[2, 1, 2], [0, 0, 2], [0, 1, 1], [0, 1, 3], [0, 1, -1], [-1, 1, 2], [FAR, 1, 2], [0, -FAR, 2]],
                       lambda begins: Turned(begins).shows(TRIANGLE))
        triple = Web(2, [(0, 1)] * 3)
        self.none_show([[0, 1, 2], [0, 1, -1], [0, 1, -2]], lambda begins: Turned(begins).shows(triple))
        fourth = Web(4, SQUARE.ties() + [(0, 2)])
        self.none_show([[0, 1, 2, 3, 1], [0, 1, 2, 3, 3]], lambda begins: Turned(begins).shows(fourth))


class NumbersShow(Truths):
    def test_numbers(self):
        self.true(Numbers([0, 1, 2]).shows(ROW, 0, 2))
        self.true(Numbers([2, 1, 0]).shows(ROW, 2, 0))
        self.true(Numbers([0, 2, 1]).shows(TRIANGLE, 0, 1))
        self.true(Numbers([0, 1, 3, 2]).shows(SQUARE, 0, 2))
        self.true(Numbers([0, 3, 1, 2]).shows(SQUARE, 0, 2))
        self.true(Numbers([1, 0, 3, 2]).shows(CROSSED, 1, 2))

    def test_two_points_need_no_tie(self):
        self.true(Numbers([0, 1]).shows(PAIR, 0, 1))
        self.true(Numbers([1, 0]).shows(Web(2, []), 1, 0))

    def test_no_tie_ahead_or_behind(self):
        self.false(Numbers([0, 2, 1, 3]).shows(LONG_ROW, 0, 3))
        self.false(Numbers([0, 2, 1]).shows(ROW, 0, 1))
        self.false(Numbers([1, 2, 0]).shows(ROW, 1, 0))
        only_behind = Web(4, [(0, 1), (1, 3), (2, 3)])
        self.none_show([[0, 1, 2, 3], [0, 2, 1, 3]], lambda points: Numbers(points).shows(only_behind, 0, 3))
        only_ahead = Web(4, [(0, 1), (1, 3), (0, 2)])
        self.none_show([[0, 1, 2, 3], [0, 2, 1, 3]], lambda points: Numbers(points).shows(only_ahead, 0, 3))
        self.false(Numbers([0, 2, 1]).shows(Web(3, [(0, 1)]), 0, 1))

    def test_each_inner_point_counts(self):
        row = Web(5, [(0, 1), (1, 2), (2, 3), (3, 4)])
        self.true(Numbers([0, 1, 2, 3, 4]).shows(row, 0, 4))
        self.none_show([[0, 2, 1, 3, 4], [0, 1, 3, 2, 4], [0, 3, 2, 1, 4]],
                       lambda points: Numbers(points).shows(row, 0, 4))

    def test_ends_elsewhere(self):
        self.false(Numbers([1, 0, 2]).shows(TRIANGLE, 0, 2))
        self.false(Numbers([0, 2, 1]).shows(TRIANGLE, 0, 2))
        self.false(Numbers([2, 1, 0]).shows(TRIANGLE, 0, 2))
        self.false(Numbers([1, 2, 0]).shows(TRIANGLE, 0, 2))

    def test_not_each_point_once(self):
        self.none_show([[], [0], [2], [0, 2], [0, 0, 2], [0, 1, 1, 2], [0, 1, 2, 2], [0, 1, 0, 2], [0, 2, 1, 2],
                        [0, 1, 3, 2], [0, 3, 2], [0, -1, 2], [0, 1, -1, 2], [0, FAR, 2]],
                       lambda points: Numbers(points).shows(TRIANGLE, 0, 2))

    def test_one_and_other(self):
        self.false(Numbers([0, 1, 2]).shows(ROW, 0, 3))
        self.false(Numbers([0, 1, 2]).shows(ROW, 0, -1))
        self.false(Numbers([0, 1, 2]).shows(ROW, -3, 2))
        self.false(Numbers([0, 1, 2]).shows(ROW, 0, 0))
        self.false(Numbers([-1, 0, 1, 2]).shows(ROW, -1, 2))
        self.false(Numbers([0, 1, 2, 3]).shows(ROW, 0, 3))
        self.false(Numbers([0, 1, 0]).shows(PAIR, 0, 0))
        self.false(Numbers([]).shows(LONE, 0, 1))
        self.false(Numbers([0]).shows(LONE, 0, 0))


class PocketShows(Truths):
    def test_pockets(self):
        self.true(Pocket([2], 1).shows(ROW, 0, 1))
        self.true(Pocket([2], 1).shows(ROW, 1, 0))
        self.true(Pocket([3, 4], 2).shows(BOW, 0, 1))
        self.true(Pocket([3, 4], 2).shows(BOW, 0, 2))
        self.true(Pocket([2, 3], 1).shows(LONG_ROW, 0, 1))
        self.true(Pocket([3], 2).shows(LONG_ROW, 0, 1))

    def test_no_tie_leaves(self):
        for door in (0, 1):
            self.true(Pocket([2], door).shows(Web(3, [(0, 1)]), 0, 1))
        self.true(Pocket([2, 3], 4).shows(Web(5, [(0, 1), (2, 3), (1, 4)]), 0, 1))

    def test_several_ties_to_the_door(self):
        self.true(Pocket([2], 0).shows(Web(3, [(0, 2), (0, 2), (0, 2)]), 0, 1))

    def test_a_tie_comes_elsewhere(self):
        for door in range(-1, 4):
            self.false(Pocket([2], door).shows(TRIANGLE, 0, 1))
            self.false(Pocket([1], door).shows(ROW, 0, 2))
        self.false(Pocket([2], 0).shows(ROW, 0, 1))
        self.false(Pocket([3], 2).shows(BOW, 0, 1))

    def test_none(self):
        for web in (PAIR, ROW, TRIANGLE, Web(4, [])):
            for door in range(web.points):
                self.false(Pocket([], door).shows(web, 0, 1))

    def test_one_or_other_within(self):
        self.false(Pocket([3, 4], 2).shows(BOW, 0, 3))
        self.false(Pocket([3, 4], 2).shows(BOW, 4, 0))
        self.false(Pocket([0], 1).shows(Web(3, []), 0, 2))
        self.false(Pocket([2], 1).shows(Web(3, []), 0, 2))
        self.false(Pocket([0, 2], 1).shows(ROW, 0, 2))

    def test_door_within(self):
        self.false(Pocket([3, 4], 3).shows(BOW, 0, 1))
        self.false(Pocket([2], 2).shows(Web(3, []), 0, 1))

    def test_door_that_there_is_not(self):
        for door in (-1, -2, 3, 4, FAR, -FAR):
            self.false(Pocket([2], door).shows(Web(3, []), 0, 1))
            self.false(Pocket([2], door).shows(ROW, 0, 1))

    def test_not_rising(self):
        self.none_show([[4, 3], [3, 3, 4], [3, 4, 4], [3, 4, 3]], lambda points: Pocket(points, 2).shows(BOW, 0, 1))
        self.false(Pocket([2, 2], 1).shows(ROW, 0, 1))

    def test_points_that_there_are_not(self):
        self.none_show([[-1], [3], [2, 3], [-1, 2], [FAR], [-FAR, 2]], lambda points: Pocket(points, 1).shows(ROW, 0, 1))

    def test_one_and_other(self):
        for one, other in ((0, 0), (1, 1), (0, 3), (-1, 0), (3, 1), (0, -3), (5, 6), (-1, -1), (3, 3)):
            with self.subTest((one, other)):
                self.false(Pocket([2], 1).shows(ROW, one, other))
                self.false(Pocket([2], 1).shows(Web(3, []), one, other))


class WaysShow(Truths):
    def test_ways(self):
        self.true(Ways([([0, 1, 2], [0, 1])]).shows(ROW, 0, 2, 1))
        self.true(Ways([([2, 1, 0], [1, 0])]).shows(ROW, 2, 0, 1))
        self.true(Ways([([0, 1, 2], [0, 1]), ([0, 3, 2], [3, 2])]).shows(SQUARE, 0, 2, 2))
        self.true(Ways([([0, 3, 2], [3, 2]), ([0, 1, 2], [0, 1])]).shows(SQUARE, 0, 2, 2))
        self.true(Ways([([3, 2, 1], [2, 1]), ([3, 0, 1], [3, 0])]).shows(CROSSED, 3, 1, 2))

    def test_as_many_as_a_web_can_have(self):
        web = Web(8, [(0, k) for k in range(1, 7)] + [(k, 7) for k in range(1, 7)])
        ways = Ways([([0, k, 7], [k - 1, k + 5]) for k in range(1, 7)])
        self.true(ways.shows(web, 0, 7, 6))
        self.false(ways.shows(web, 0, 7, 5))
        self.false(ways.shows(web, 0, 7, 7))

    def test_not_so_many(self):
        one_way = [([0, 1, 2], [0, 1])]
        both = one_way + [([0, 3, 2], [3, 2])]
        for many in (-1, 0, 2, 3, FAR, -FAR):
            self.false(Ways(one_way).shows(SQUARE, 0, 2, many))
            self.false(Ways(one_way).ties_apart(SQUARE, 0, 2, many))
        for many in (-2, 0, 1, 3, FAR):
            self.false(Ways(both).shows(SQUARE, 0, 2, many))
            self.false(Ways(both).ties_apart(SQUARE, 0, 2, many))
        for many in (-1, 1, 2):
            self.false(Ways([]).shows(SQUARE, 0, 2, many))
            self.false(Ways([]).ties_apart(SQUARE, 0, 2, many))

    def test_points_that_a_tie_joins(self):
        self.false(Ways([([0, 1], [0])]).shows(PAIR, 0, 1, 1))
        self.false(Ways([([1, 0], [0])]).shows(PAIR, 1, 0, 1))
        self.false(Ways([([0, 1, 2], [0, 1])]).shows(TRIANGLE, 0, 2, 1))
        self.false(Ways([([2, 1, 0], [1, 0])]).shows(TRIANGLE, 2, 0, 1))

    def test_a_point_in_common(self):
        web = Web(3, [(0, 1), (0, 1), (1, 2), (1, 2)])
        ways = Ways([([0, 1, 2], [0, 2]), ([0, 1, 2], [1, 3])])
        self.false(ways.shows(web, 0, 2, 2))
        self.true(ways.ties_apart(web, 0, 2, 2))
        crossing = Web(6, [(0, 1), (1, 2), (2, 5), (0, 3), (2, 3), (2, 4), (4, 5)])
        ways = Ways([([0, 1, 2, 5], [0, 1, 2]), ([0, 3, 2, 4, 5], [3, 4, 5, 6])])
        self.false(ways.shows(crossing, 0, 5, 2))
        self.true(ways.ties_apart(crossing, 0, 5, 2))

    def test_a_tie_in_common(self):
        ways = Ways([([0, 1, 2], [0, 1]), ([0, 1, 2], [0, 1])])
        self.false(ways.shows(ROW, 0, 2, 2))
        self.false(ways.ties_apart(ROW, 0, 2, 2))
        web = Web(3, [(0, 1), (0, 1), (1, 2)])
        self.false(Ways([([0, 1, 2], [0, 2]), ([0, 1, 2], [1, 2])]).ties_apart(web, 0, 2, 2))
        self.false(Ways([([0, 1], [0]), ([0, 1], [0])]).ties_apart(TWICE, 0, 1, 2))

    def test_third_has_something_in_common(self):
        web = Web(6, [(0, 1), (1, 5), (0, 2), (2, 5), (0, 3), (3, 5), (2, 3)])
        first, second, third = ([0, 1, 5], [0, 1]), ([0, 2, 5], [2, 3]), ([0, 3, 5], [4, 5])
        self.true(Ways([first, second, third]).shows(web, 0, 5, 3))
        self.true(Ways([first, second, third]).ties_apart(web, 0, 5, 3))
        for ways in ([first, second, first], [first, second, second], [first, first, third],
                     [first, second, ([0, 3, 2, 5], [4, 6, 3])], [first, second, ([0, 2, 3, 5], [2, 6, 5])]):
            self.false(Ways(ways).shows(web, 0, 5, 3))
            self.false(Ways(ways).ties_apart(web, 0, 5, 3))

    def no_way(self, web, walk, one, other):
        self.false(Ways([walk]).shows(web, one, other, 1))
        self.false(Ways([walk]).ties_apart(web, one, other, 1))

    def test_ends_elsewhere(self):
        self.no_way(LONG_ROW, ([0, 1, 2], [0, 1]), 0, 3)
        self.no_way(LONG_ROW, ([1, 2, 3], [1, 2]), 0, 3)
        self.no_way(LONG_ROW, ([3, 2, 1, 0], [2, 1, 0]), 0, 3)
        self.no_way(LONG_ROW, ([0], []), 0, 3)
        self.no_way(LONG_ROW, ([3], []), 0, 3)

    def test_second_way_counts_like_the_first(self):
        good = ([0, 1, 2], [0, 1])
        for walk in (([0, 3], [3]), ([3, 2], [2]), ([2, 3, 0], [2, 3]), ([0, 3, 2], [2, 3]), ([], [])):
            for ways in ([good, walk], [walk, good]):
                self.false(Ways(ways).shows(SQUARE, 0, 2, 2))
                self.false(Ways(ways).ties_apart(SQUARE, 0, 2, 2))

    def test_does_not_fit_its_ties(self):
        self.no_way(LONG_ROW, ([0, 1, 2, 3], [0, 2, 1]), 0, 3)
        self.no_way(LONG_ROW, ([0, 2, 1, 3], [0, 1, 2]), 0, 3)
        self.no_way(LONG_ROW, ([0, 3], [0]), 0, 3)
        self.no_way(LONG_ROW, ([0, 3], [2]), 0, 3)

    def test_lists_too_short_or_too_long(self):
        for walk in (([], []), ([], [0, 1]), ([0, 1, 2], [0]), ([0, 1, 2], []), ([0, 1], [0, 1]), ([0, 2], [0, 1]),
                     ([0, 1, 2], [0, 1, 1]), ([0, 1, 2, 2], [0, 1]), ([0, 2], []), ([0, 1, 2], [0, 1, 2])):
            with self.subTest(walk):
                self.no_way(ROW, walk, 0, 2)

    def test_comes_to_a_point_twice(self):
        web = Web(5, [(0, 1), (1, 2), (2, 3), (1, 3), (1, 4)])
        self.no_way(web, ([0, 1, 2, 3, 1, 4], [0, 1, 2, 3, 4]), 0, 4)
        self.no_way(ROW, ([0, 1, 0, 1, 2], [0, 0, 0, 1]), 0, 2)
        self.no_way(Web(3, [(0, 1), (0, 1), (0, 1), (1, 2)]), ([0, 1, 0, 1, 2], [0, 1, 2, 3]), 0, 2)

    def test_places_and_points_that_there_are_not(self):
        for place in (-1, 2, 3, FAR, -FAR):
            self.no_way(ROW, ([0, 1, 2], [0, place]), 0, 2)
        self.no_way(ROW, ([0, 1, 2], [-2, 1]), 0, 2)
        for point in (-1, -2, 3, FAR, -FAR):
            self.no_way(ROW, ([0, point, 2], [0, 1]), 0, 2)

    def test_one_and_other(self):
        self.no_way(ROW, ([0], []), 0, 0)
        self.no_way(SQUARE, ([0, 1, 2, 3, 0], [0, 1, 2, 3]), 0, 0)
        self.no_way(ROW, ([0, 1, 2], [0, 1]), 0, 3)
        self.no_way(ROW, ([0, 1, 3], [0, 1]), 0, 3)
        self.no_way(ROW, ([0, 1, 2], [0, 1]), -3, 2)
        self.no_way(ROW, ([0, 1, -1], [0, 1]), 0, -1)
        self.no_way(ROW, ([3], []), 3, 3)
        self.no_way(ROW, ([0, 1, 2], [0, 1]), 0, 0)
        self.no_way(ROW, ([0, 1, 2], [0, 1]), 2, 2)


class WaysTiesApart(Truths):
    def test_points_that_a_tie_joins(self):
        self.true(Ways([([0, 1], [0])]).ties_apart(PAIR, 0, 1, 1))
        self.true(Ways([([1, 0], [0])]).ties_apart(PAIR, 1, 0, 1))
        self.true(Ways([([0, 2], [2]), ([0, 1, 2], [0, 1])]).ties_apart(TRIANGLE, 0, 2, 2))
        self.true(Ways([([0, 1], [1]), ([0, 1], [0])]).ties_apart(TWICE, 0, 1, 2))

    def test_as_many_as_a_web_can_have(self):
        web = Web(2, [(0, 1)] * 14)
        ways = Ways([([0, 1], [k]) for k in range(14)])
        self.true(ways.ties_apart(web, 0, 1, 14))
        self.false(ways.ties_apart(web, 0, 1, 13))
        self.false(ways.ties_apart(web, 0, 1, 15))

    def test_only_the_first_and_last_have_a_tie_in_common(self):
        web = Web(2, [(0, 1)] * 3)
        self.false(Ways([([0, 1], [0]), ([0, 1], [1]), ([0, 1], [0])]).ties_apart(web, 0, 1, 3))


class WallShows(Truths):
    def test_walls(self):
        self.true(Wall([1]).shows(ROW, 0, 2, 2))
        self.true(Wall([1]).shows(ROW, 2, 0, 2))
        self.true(Wall([1]).shows(ROW, 0, 2, 8))
        self.true(Wall([1, 3]).shows(SQUARE, 0, 2, 3))
        self.true(Wall([2]).shows(BOW, 0, 3, 2))
        self.true(Wall([2]).shows(LONG_ROW, 0, 3, 2))
        self.true(Wall([1, 2]).shows(LONG_ROW, 0, 3, 3))

    def test_empty_wall_where_there_is_no_way(self):
        self.true(Wall([]).shows(Web(2, []), 0, 1, 1))
        self.true(Wall([]).shows(Web(4, [(0, 1), (2, 3)]), 0, 3, 1))
        self.false(Wall([]).shows(ROW, 0, 2, 1))

    def test_not_fewer(self):
        for many in (1, 0, -1, -FAR):
            self.false(Wall([1]).shows(ROW, 0, 2, many))
        for many in (2, 1, 0):
            self.false(Wall([1, 3]).shows(SQUARE, 0, 2, many))
        for many in (0, -1):
            self.false(Wall([]).shows(Web(2, []), 0, 1, many))

    def test_a_way_past_it(self):
        self.none_show([[], [1], [3]], lambda points: Wall(points).shows(SQUARE, 0, 2, 8))
        self.none_show([[], [0], [1], [2]], lambda points: Wall(points).shows(TRIANGLE, 0, 2, 8))
        self.false(Wall([4]).shows(BOW, 0, 3, 8))
        back = Web(5, [(1, 3), (0, 3), (1, 2), (2, 4)])
        self.false(Wall([]).shows(back, 0, 4, 8))
        self.false(Wall([]).shows(back, 4, 0, 8))

    def test_points_that_a_tie_joins(self):
        for points in ([], [2]):
            self.false(Wall(points).shows(Web(3, [(0, 1)]), 0, 1, 8))
            self.false(Wall(points).shows(TRIANGLE, 1, 0, 8))
        self.false(Wall([]).shows(PAIR, 0, 1, 1))

    def test_one_or_other_within(self):
        self.none_show([[0], [2], [0, 1], [1, 2], [0, 2], [0, 1, 2]], lambda points: Wall(points).shows(ROW, 0, 2, 8))

    def test_not_rising(self):
        self.none_show([[3, 1], [1, 1, 3], [1, 3, 3], [1, 3, 1]], lambda points: Wall(points).shows(SQUARE, 0, 2, 8))
        self.false(Wall([1, 1]).shows(ROW, 0, 2, 8))

    def test_points_that_there_are_not(self):
        self.none_show([[-1, 1], [1, 3], [1, FAR], [-FAR, 1], [-2], [-2, 1]],
                       lambda points: Wall(points).shows(ROW, 0, 2, 8))

    def test_one_and_other(self):
        for one, other in ((0, 0), (2, 2), (0, 3), (3, 0), (-1, 0), (0, -1), (0, -3), (5, 6), (-1, 3), (3, 3)):
            with self.subTest((one, other)):
                self.false(Wall([1]).shows(ROW, one, other, 8))
                self.false(Wall([]).shows(Web(3, []), one, other, 8))


class PartShows(Truths):
    def test_parts(self):
        self.true(Part([0]).shows(ROW, 0, 2, 2))
        self.true(Part([0, 1]).shows(ROW, 0, 2, 2))
        self.true(Part([2]).shows(ROW, 2, 0, 2))
        self.true(Part([0]).shows(PAIR, 0, 1, 2))
        self.true(Part([0]).shows(TWICE, 0, 1, 3))
        self.true(Part([0, 1, 2]).shows(BOW, 1, 3, 3))
        self.true(Part([0]).shows(Web(2, [(0, 1)] * 13), 0, 1, 14))

    def test_no_tie_leaves(self):
        self.true(Part([0]).shows(Web(2, []), 0, 1, 1))
        self.true(Part([0, 1]).shows(Web(4, [(0, 1), (2, 3)]), 0, 3, 1))
        self.true(Part([0, 2]).shows(Web(4, []), 2, 3, 1))

    def test_not_fewer(self):
        for many in (1, 0, -1, -FAR):
            self.false(Part([0]).shows(ROW, 0, 2, many))
        for many in (2, 1, 0):
            self.false(Part([0]).shows(TWICE, 0, 1, many))
        self.false(Part([0]).shows(Web(2, []), 0, 1, 0))
        self.false(Part([0]).shows(Web(2, [(0, 1)] * 14), 0, 1, 14))
        self.false(Part([0, 2]).shows(SQUARE, 0, 1, 4))

    def test_without_the_one(self):
        self.none_show([[], [1], [1, 3]], lambda points: Part(points).shows(SQUARE, 0, 2, 14))

    def test_with_the_other(self):
        self.none_show([[0, 2], [0, 1, 2], [0, 1, 2, 3], [2]], lambda points: Part(points).shows(SQUARE, 0, 2, 14))

    def test_not_rising(self):
        self.none_show([[1, 0], [0, 0], [0, 0, 1], [0, 3, 1], [0, 1, 1]],
                       lambda points: Part(points).shows(SQUARE, 0, 2, 14))

    def test_points_that_there_are_not(self):
        self.none_show([[-1, 0], [0, 4], [0, FAR], [-FAR, 0], [-4, 0]],
                       lambda points: Part(points).shows(SQUARE, 0, 2, 14))

    def test_one_and_other(self):
        for one, other in ((0, 0), (0, 4), (0, -1), (0, -2), (-1, 2), (4, 2), (-4, 2), (4, 4), (0, FAR)):
            with self.subTest((one, other)):
                self.false(Part([0]).shows(SQUARE, one, other, 14))
                self.false(Part([one]).shows(SQUARE, one, other, 14))


if __name__ == "__main__":
    unittest.main()
