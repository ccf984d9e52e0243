"""For every web of up to 3 points and 4 ties, or 4 points and 5 ties: of the two things that a point speaks of there is one, and never both."""

import unittest
from itertools import combinations, permutations, product

from earworks.answers import Bar, Ears, Joint, Numbers, Part, Pocket, Turned, Wall, Ways
from helper import point_sets, small_webs

SIZES = ((2, 4), (3, 4), (4, 5))


def walks(web, begin, gone):
    """All walks from a point that go no tie twice and none of those gone already."""
    ties = web.ties()
    found = [([begin], [])]
    for points, places in found:
        for place, tie in enumerate(ties):
            if points[-1] in tie and place not in places and place not in gone:
                found.append((points + [sum(tie) - points[-1]], places + [place]))
    return found


def ears_of(web, so_far=()):
    """Far more lists of walks than are ears: whether they are is asked of Ears alone."""
    if so_far:
        yield list(so_far)
    gone = [place for ear in so_far for place in ear[1]]
    met = [point for ear in so_far for point in ear[0]]
    for begin in range(web.points):
        for walk in walks(web, begin, gone):
            closed = walk[0][0] == walk[0][-1]
            joins = walk[0][0] in met and walk[0][-1] in met if so_far else closed
            if walk[1] and joins:
                yield from ears_of(web, so_far + (walk,))


def some_bar(web):
    return any(Bar(points).shows(web) for points in point_sets(web))


def some_joint(web):
    return any(Joint(point, others).shows(web)
               for point in range(web.points) for others in point_sets(web))


def some_turned(web):
    return any(Turned(list(begins)).shows(web) for begins in product(*web.ties()))


def some_numbers(web, one, other):
    return any(Numbers(list(points)).shows(web, one, other) for points in permutations(range(web.points)))


def some_pocket(web, one, other):
    return any(Pocket(points, door).shows(web, one, other)
               for points in point_sets(web) for door in range(web.points))


def some_ways(web, one, other, many, truth):
    candidates = [walk for walk in walks(web, one, []) if walk[0][-1] == other]
    return any(truth(Ways(list(ways)), web, one, other, many) for ways in combinations(candidates, many))


def some_wall(web, one, other, many):
    return any(Wall(points).shows(web, one, other, many) for points in point_sets(web))


def some_part(web, one, other, many):
    return any(Part(points).shows(web, one, other, many) for points in point_sets(web))


class OneOfTwo(unittest.TestCase):
    def just_one(self, web, first, second, *asked):
        if first == second:
            self.fail(f"both {first}: {web.points} {web.ties()} {asked}")

    def test_ears_or_a_bar(self):
        for web in small_webs(2, SIZES):
            self.just_one(web, any(Ears(ears).shows(web) for ears in ears_of(web)), some_bar(web))

    def test_all_ways_or_a_joint(self):
        for web in small_webs(3, SIZES):
            self.just_one(web, any(Ears(ears).all_ways(web) for ears in ears_of(web)), some_joint(web))

    def test_turned_or_a_bar(self):
        for web in small_webs(2, SIZES):
            self.just_one(web, some_turned(web), some_bar(web))

    def test_numbers_or_a_pocket(self):
        for web in small_webs(2, SIZES):
            for one, other in permutations(range(web.points), 2):
                self.just_one(web, some_numbers(web, one, other), some_pocket(web, one, other), one, other)

    def test_ways_or_a_wall(self):
        for web in small_webs(2, SIZES):
            for one, other in permutations(range(web.points), 2):
                if (min(one, other), max(one, other)) not in web.ties():
                    for many in (1, 2, 3):
                        self.just_one(web, some_ways(web, one, other, many, Ways.shows),
                                      some_wall(web, one, other, many), one, other, many)

    def test_ways_with_ties_apart_or_a_part(self):
        for web in small_webs(2, SIZES):
            for one, other in permutations(range(web.points), 2):
                for many in (1, 2, 3):
                    self.just_one(web, some_ways(web, one, other, many, Ways.ties_apart),
                                  some_part(web, one, other, many), one, other, many)


if __name__ == "__main__":
    unittest.main()
