"""Asked with any whole numbers, a truth is True or False, and False where a point, place or door isn't there."""

import unittest
from itertools import product

from earworks.answers import Bar, Ears, Joint, Numbers, Part, Pocket, Turned, Wall, Ways
from earworks.webs import Web

WEBS = (Web(1, []), Web(2, [(0, 1), (0, 1)]), Web(3, []), Web(3, [(0, 1), (1, 2)]), Web(3, [(0, 1), (1, 2), (0, 2)]))
POOL = (-10 ** 20, -2, -1, 0, 1, 2, 3, 10 ** 20)
LISTS = [list(numbers) for many in range(3) for numbers in product(POOL, repeat=many)]
LISTS += [list(numbers) for numbers in product((-1, 0, 1, 2, 3), repeat=3)]
SHORT = [[], [0], [-1], [1, 0], [0, 1], [0, 1, 2], [0, 1, 0], [2, 1, 0], [0, 1, 3], [-1, 0, -1], [0, 1, 2, 0]]
WALKS = list(product(SHORT, repeat=2))
TWOS = ((0, 1), (0, 2), (2, 0), (0, 0), (-1, 0), (0, 3), (3, -1), (10 ** 20, 0))
COUNTS = (-10 ** 20, -1, 0, 1, 2, 3, 10 ** 20)


class Wild(unittest.TestCase):
    def told(self, truth, all_there):
        self.assertIs(type(truth), bool)
        if not all_there:
            self.assertIs(truth, False)

    def there(self, web, numbers):
        return all(0 <= number < web.points for number in numbers)

    def walk_there(self, web, walk):
        return self.there(web, walk[0]) and all(0 <= place < len(web.ties()) for place in walk[1])

    def test_bar_and_turned(self):
        for web, numbers in product(WEBS, LISTS):
            self.told(Bar(numbers).shows(web), self.there(web, numbers))
            self.told(Turned(numbers).shows(web), self.there(web, numbers))

    def test_joint(self):
        for web, numbers, point in product(WEBS, LISTS, POOL):
            self.told(Joint(point, numbers).shows(web), self.there(web, numbers + [point]))

    def test_numbers_and_pocket(self):
        for web, numbers, (one, other) in product(WEBS, LISTS, TWOS):
            self.told(Numbers(numbers).shows(web, one, other), self.there(web, numbers + [one, other]))
            for door in (-1, 0, 1, 2, 3):
                self.told(Pocket(numbers, door).shows(web, one, other), self.there(web, numbers + [one, other, door]))

    def test_wall_and_part(self):
        for web, numbers, (one, other), many in product(WEBS, LISTS, TWOS, COUNTS):
            self.told(Wall(numbers).shows(web, one, other, many), self.there(web, numbers + [one, other]))
            self.told(Part(numbers).shows(web, one, other, many), self.there(web, numbers + [one, other]))

    def test_ears(self):
        rings = [[], [([0, 1, 0], [0, 1])], [([0, 1, 2, 0], [0, 1, 2])]]
        for web, first, walk in product(WEBS, rings, WALKS):
            for ears in (Ears(first + [walk]), Ears([walk] + first)):
                all_there = all(self.walk_there(web, ear) for ear in ears.ears)
                self.told(ears.shows(web), all_there)
                self.told(ears.all_ways(web), all_there)

    def test_ways(self):
        for web, walk, (one, other), many in product(WEBS, WALKS, TWOS, COUNTS):
            for ways in (Ways([walk]), Ways([walk, walk])):
                all_there = self.walk_there(web, walk) and self.there(web, [one, other])
                self.told(ways.shows(web, one, other, many), all_there)
                self.told(ways.ties_apart(web, one, other, many), all_there)


if __name__ == "__main__":
    unittest.main()
