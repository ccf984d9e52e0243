"""What the tests share: webs to ask about, things of every kind, and the document's words worked out plainly.

Nothing here asks the program for a truth: a web is asked for its points and ties alone.
"""

import random
from copy import deepcopy
from itertools import chain, combinations, combinations_with_replacement, permutations, product

from earworks.webs import Web


class Unshowable:
    """Something of no known kind that lets nothing be done with it."""

    def refuse(self, *rest):
        raise RuntimeError("not to be touched")

    __eq__ = __ne__ = __lt__ = __le__ = __gt__ = __ge__ = refuse
    __len__ = __iter__ = __getitem__ = __contains__ = refuse
    __bool__ = __int__ = __index__ = __repr__ = __str__ = __hash__ = refuse


OTHER_KINDS = (None, True, False, "", "2", "12", b"12", 1.0, 2.5, float("nan"), float("inf"), 2j, (), (1,), [], [1],
               [(0, 1)], {}, {0: 1}, set(), frozenset([1]), range(2), iter([]), object(), int, len, Web(2, []),
               Unshowable())


# Webs

def small_webs(least, sizes=((2, 6), (3, 6), (4, 6), (5, 4))):
    """Every web of so many points and at most so many ties, each once, its ties in some order."""
    luck = random.Random(10)
    for points, most in sizes:
        if points >= least:
            pairs = list(combinations(range(points), 2))
            for many in range(most + 1):
                for ties in combinations_with_replacement(pairs, many):
                    yield Web(points, luck.sample(ties, many))


def ring(points):
    return [(k, (k + 1) % points) for k in range(points)]


def row(points):
    return [(k, k + 1) for k in range(points - 1)]


def full(points):
    return list(combinations(points, 2))


def known_larger():
    """Webs known by name, as counts of points and lists of pairs."""
    yield from ((points, []) for points in range(3, 9))
    yield from ((points, ring(points)) for points in range(3, 9))
    yield from ((points, row(points)) for points in range(3, 9))
    yield from ((points, row(points) * 2) for points in range(3, 9))
    yield from ((points, ring(points) * 2) for points in range(3, 8))
    yield from ((points, [(0, k) for k in range(1, points)]) for points in range(3, 9))
    yield from ((points, full(range(points))) for points in range(3, 6))
    yield 2, [(0, 1)] * 14
    yield 2, [(0, 1)] * 13
    yield 3, [(0, 1)] * 7 + [(1, 2)] * 7
    yield 3, [(0, 1)] * 5 + [(1, 2)] * 5 + [(0, 2)] * 4
    yield 6, full(range(6))[:14]
    yield 8, ring(7) + [(k, 7) for k in range(7)]
    yield 8, list(product(range(2), range(2, 8)))
    yield 7, list(product(range(3), range(3, 7)))
    yield 6, list(product(range(3), range(3, 6)))
    yield 8, [(k, k ^ bit) for k in range(8) for bit in (1, 2, 4) if k < k ^ bit]
    yield 8, ring(8) + [(k, k + 4) for k in range(4)]
    yield 7, full((0, 1, 2, 3)) + full((3, 4, 5, 6))
    yield 8, full((0, 1, 2, 3)) + full((4, 5, 6, 7))
    yield 8, full((0, 1, 2, 3)) + full((4, 5, 6, 7)) + [(3, 4)]
    yield 8, full((0, 1, 2, 3)) + full((4, 5, 6, 7)) + [(3, 4), (2, 5)]
    yield 8, full((0, 1, 2)) + [(2, 3), (3, 4), (4, 5)] + full((5, 6, 7))
    yield 7, full((0, 1, 2)) + full((0, 3, 4)) + full((0, 5, 6))
    yield 8, full(range(4)) + [(0, 4)] * 8


def more_ties(luck, points, many):
    return [tuple(luck.sample(points, 2)) for _ in range(many)]


def wild_larger(luck, points):
    """One web of each sort, with more ties as luck has it."""
    every = list(range(points))
    half = luck.randint(2, points - 2)
    left, right = every[:half], every[half:]
    yield points, ring(points) + more_ties(luck, every, luck.randint(0, 14 - points))
    yield points, row(points) + more_ties(luck, every, luck.randint(0, 15 - points))
    yield points, more_ties(luck, left, luck.randint(1, 6)) + more_ties(luck, right, luck.randint(1, 8))
    yield points, more_ties(luck, left, 6) + more_ties(luck, right, 7) + [(left[0], right[0])]
    yield points, more_ties(luck, left, 6) + more_ties(luck, right + left[:1], 8)
    yield points, more_ties(luck, every, luck.randint(3, 14))


def larger_webs(rounds):
    """Points and ties are mixed up, so that no answer hangs on the order in which they come."""
    luck = random.Random(20)
    shapes = list(known_larger())
    for turn in range(rounds):
        shapes += list(wild_larger(luck, 5 + turn % 4))
    for points, pairs in shapes:
        names = luck.sample(range(points), points)
        ties = [tuple(sorted((names[one], names[other]))) for one, other in pairs]
        luck.shuffle(ties)
        yield Web(points, ties)


def without_tie(web, place):
    ties = web.ties()
    return Web(web.points, ties[:place] + ties[place + 1:])


def joined(web, one, other):
    return any({one, other} == set(tie) for tie in web.ties())


def two_points(web):
    return list(permutations(range(web.points), 2))


def untied_points(web):
    return [(one, other) for one, other in two_points(web) if not joined(web, one, other)]


# Answers

FIELDS = {"Ears": ("ears",), "Bar": ("points",), "Joint": ("point", "others"), "Turned": ("begins",),
          "Numbers": ("points",), "Pocket": ("points", "door"), "Ways": ("ways",), "Wall": ("points",),
          "Part": ("points",)}


def told_by(answer):
    """The class and a copy of all fields."""
    return type(answer).__name__, deepcopy([getattr(answer, name) for name in FIELDS[type(answer).__name__]])


def lists_in(answer):
    """All lists in the fields, those within first."""
    lists = []
    for name in FIELDS[type(answer).__name__]:
        value = getattr(answer, name)
        if type(value) is list:
            lists += [inner for pair in value if type(pair) is tuple for inner in pair] + [value]
    return lists


def append_to(answer):
    for numbers in lists_in(answer):
        numbers.append(3)


def clear(answer):
    for numbers in lists_in(answer):
        numbers.clear()


def set_numbers(answer):
    for numbers in lists_in(answer):
        numbers[:] = [7] * len(numbers)


def set_fields(answer):
    for name in FIELDS[type(answer).__name__]:
        setattr(answer, name, 5)


SPOILS = (append_to, clear, set_numbers, set_fields)


def spoil(case, web, ask):
    """Whatever is done with an answer: no other one, before or behind, and not the web changes by it."""
    points, ties = web.points, web.ties()
    before = ask()
    told = told_by(before)
    for change in SPOILS:
        change(ask())
        case.assertEqual(told_by(before), told)
        case.assertEqual(told_by(ask()), told)
        case.assertEqual((web.points, web.ties()), (points, ties))


# The document's words

def plain_numbers(numbers):
    return type(numbers) is list and all(type(number) is int for number in numbers)


def of_web(web, points):
    return plain_numbers(points) and all(0 <= point < web.points for point in points)


def rising(web, points):
    return of_web(web, points) and all(one < other for one, other in zip(points, points[1:]))


def leaving(web, points):
    """Where each tie that leaves the points comes to."""
    ends = []
    for one, other in web.ties():
        if one in points and other not in points:
            ends.append(other)
        if other in points and one not in points:
            ends.append(one)
    return ends


def good_walk(web, walk):
    if type(walk) is not tuple or len(walk) != 2:
        return False
    points, places = walk
    ties = web.ties()
    if not of_web(web, points) or not plain_numbers(places) or len(places) != len(points) - 1:
        return False
    if not all(0 <= place < len(ties) for place in places) or len(set(places)) != len(places):
        return False
    return all(set(ties[place]) == set(points[k:k + 2]) for k, place in enumerate(places))


def good_way(web, walk):
    return good_walk(web, walk) and len(set(walk[0])) == len(walk[0])


def good_ring(web, walk):
    if not good_walk(web, walk) or len(walk[1]) < 2 or walk[0][0] != walk[0][-1]:
        return False
    return len(set(walk[0])) == len(walk[0]) - 1


def good_ears(web, ears, ways_alone):
    if type(ears) is not list or not ears or not good_ring(web, ears[0]):
        return False
    ahead = set(ears[0][0])
    for ear in ears[1:]:
        if not good_way(web, ear) and (ways_alone or not good_ring(web, ear)):
            return False
        inner = ear[0][1:-1]
        if not ear[1] or not {ear[0][0], ear[0][-1]} <= ahead or ahead & set(inner):
            return False
        ahead |= set(inner)
    gone = [place for ear in ears for place in ear[1]]
    return sorted(gone) == list(range(len(web.ties()))) and ahead == set(range(web.points))


def good_bar(web, points):
    return rising(web, points) and 0 < len(points) < web.points and len(leaving(web, points)) <= 1


def good_joint(web, point, others):
    if not of_web(web, [point]) or not rising(web, others) or point in others:
        return False
    return 0 < len(others) < web.points - 1 and set(leaving(web, others)) <= {point}


def good_turned(web, begins):
    ties = web.ties()
    if not plain_numbers(begins) or len(begins) != len(ties):
        return False
    if not all(begin in tie for begin, tie in zip(begins, ties)):
        return False
    every = range(web.points)
    comes = {(begin, sum(tie) - begin) for begin, tie in zip(begins, ties)} | {(point, point) for point in every}
    for through in every:
        comes |= {(one, other) for one in every for other in every
                  if (one, through) in comes and (through, other) in comes}
    return len(comes) == web.points ** 2


def good_numbers(web, points, one, other):
    if not of_web(web, points) or sorted(points) != list(range(web.points)):
        return False
    if points[0] != one or points[-1] != other:
        return False
    return all(any(joined(web, point, tied) for tied in points[:place])
               and any(joined(web, point, tied) for tied in points[place + 1:])
               for place, point in enumerate(points) if point not in (one, other))


def good_pocket(web, points, door, one, other):
    if not rising(web, points) or not points or not of_web(web, [door]) or {one, other, door} & set(points):
        return False
    return set(leaving(web, points)) <= {door}


def good_ways(web, ways, one, other, many, shared):
    """Shared is what no two ways may have in common: inner points, or places of ties."""
    if type(ways) is not list or len(ways) != many:
        return False
    if not all(good_way(web, way) and way[0][0] == one and way[0][-1] == other for way in ways):
        return False
    return not any(set(shared(way)) & set(shared(more)) for way, more in combinations(ways, 2))


def inner_points(way):
    return way[0][1:-1]


def gone_ties(way):
    return way[1]


def is_parted(web, points, one, other):
    """Whether each way from the one to the other meets one of the points."""
    free = [tie for tie in web.ties() if not set(tie) & set(points)]
    near = {one}
    for _ in range(web.points):
        near |= {point for tie in free if set(tie) & near for point in tie}
    return other not in near


def good_wall(web, points, one, other, many):
    if not rising(web, points) or len(points) >= many or {one, other} & set(points):
        return False
    return is_parted(web, points, one, other)


def good_part(web, points, one, other, many):
    if not rising(web, points) or one not in points or other in points:
        return False
    return len(leaving(web, points)) < many


# All of a kind, tried

def point_sets(web):
    every = range(web.points)
    return [list(some) for some in chain.from_iterable(combinations(every, k) for k in range(web.points + 1))]


def all_walks(web, begin, ends, gone=()):
    """All ways and rings from a point that end at one of the ends and go through none of them."""
    ties = web.ties()
    unfinished = [([begin], [])]
    for points, places in unfinished:
        for place, tie in enumerate(ties):
            if points[-1] in tie and place not in places and place not in gone:
                point = sum(tie) - points[-1]
                walk = (points + [point], places + [place])
                if point in ends:
                    yield walk
                elif point not in points:
                    unfinished.append(walk)


def some_ears(web, ways_alone):
    """Tries every ear behind every list of ears, though no two lists that go the same ties."""
    tried = set()
    unfinished = []
    for begin in range(web.points):
        unfinished += [(set(walk[1]), set(walk[0])) for walk in all_walks(web, begin, {begin}) if len(walk[1]) > 1]
    for gone, met in unfinished:
        if len(gone) == len(web.ties()) and len(met) == web.points:
            return True
        if frozenset(gone) not in tried:
            tried.add(frozenset(gone))
            for begin in sorted(met):
                for points, places in all_walks(web, begin, met, gone):
                    if points[-1] != begin or not ways_alone:
                        unfinished.append((gone | set(places), met | set(points)))
    return False


def some_bar(web):
    return any(good_bar(web, points) for points in point_sets(web))


def some_joint(web):
    return any(good_joint(web, point, others) for point in range(web.points) for others in point_sets(web))


def some_turned(web):
    return any(good_turned(web, list(begins)) for begins in product(*web.ties()))


def some_numbers(web, one, other):
    inner = [point for point in range(web.points) if point not in (one, other)]
    return any(good_numbers(web, [one, *points, other], one, other) for points in permutations(inner))


def some_pocket(web, one, other):
    return any(good_pocket(web, points, door, one, other) for points in point_sets(web) for door in range(web.points))


def most_ways(web, one, other, shared):
    """How many ways there are at most, no two with anything shared: every choice of them is tried."""
    every = [set(shared(walk)) for walk in all_walks(web, one, {other})]

    def most(place, taken):
        if place == len(every):
            return 0
        so_many = most(place + 1, taken)
        if not every[place] & taken:
            so_many = max(so_many, 1 + most(place + 1, taken | every[place]))
        return so_many

    return most(0, set())


def least_wall(web, one, other):
    walls = [len(points) for points in point_sets(web) if good_wall(web, points, one, other, web.points)]
    return min(walls)


def least_part(web, one, other):
    ties = len(web.ties())
    parts = [points for points in point_sets(web) if good_part(web, points, one, other, ties + 1)]
    return min(len(leaving(web, points)) for points in parts)
