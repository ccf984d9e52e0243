"""Webs: points, counted from 0, and the ties between them."""

from earworks.basics import is_number
from earworks.errors import BadWeb

MOST_POINTS = 8
MOST_TIES = 14


def is_tie(value, points):
    if not isinstance(value, tuple) or len(value) != 2:
        return False
    return is_number(value[0]) and is_number(value[1]) and 0 <= value[0] < value[1] < points


# The refusals don't show what was handed in: it may be of a kind that can't be shown.
class Web:
    def __init__(self, points, ties):
        if not is_number(points) or not 1 <= points <= MOST_POINTS:
            raise BadWeb("a web has 1 to 8 points")
        if not isinstance(ties, list) or len(ties) > MOST_TIES:
            raise BadWeb("a web has a list of 0 to 14 ties")
        if not all([is_tie(tie, points) for tie in ties]):
            raise BadWeb("a tie is a pair of two points of the web, the lesser first")
        self.points = points
        self.pairs = [(tie[0], tie[1]) for tie in ties]

    def ties(self):
        return list(self.pairs)
