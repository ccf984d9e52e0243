"""What is told of webs, each answer with the truths that tell whether it holds."""

from earworks.basics import all_differ, all_points, are_two_points, is_left_by_door, is_point_set, points_left_to
from earworks.basics import backwards, is_ring, is_tied, is_way, other_end, reached


def copied_walks(walks):
    return [(list(walk[0]), list(walk[1])) for walk in walks]


def places_of(walks):
    places = []
    for walk in walks:
        places.extend(walk[1])
    return places


def is_further_ear(web, ear, ahead):
    if not is_way(web, ear) and not is_ring(web, ear):
        return False
    if len(ear[1]) < 1 or ear[0][0] not in ahead or ear[0][-1] not in ahead:
        return False
    return not any([point in ahead for point in ear[0][1:-1]])


def is_tied_both_ways(web, points, place):
    tied = points_left_to(web, [points[place]])
    ahead = any([point in points[:place] for point in tied])
    behind = any([point in points[place + 1:] for point in tied])
    return ahead and behind


def are_ways(web, ways, one, other, many):
    if not are_two_points(web, one, other) or len(ways) != many:
        return False
    return all([is_way(web, way) and way[0][0] == one and way[0][-1] == other for way in ways])


class Answer:
    pass


class Ears(Answer):
    def __init__(self, ears):
        self.ears = copied_walks(ears)

    def shows(self, web):
        if len(self.ears) < 1 or not is_ring(web, self.ears[0]):
            return False
        ahead = list(self.ears[0][0])
        for ear in self.ears[1:]:
            if not is_further_ear(web, ear, ahead):
                return False
            ahead.extend(ear[0])
        all_places = list(range(len(web.ties())))
        return sorted(places_of(self.ears)) == all_places and sorted(set(ahead)) == all_points(web)

    def all_ways(self, web):
        return self.shows(web) and all([is_way(web, ear) for ear in self.ears[1:]])


class Bar(Answer):
    def __init__(self, points):
        self.points = list(points)

    def shows(self, web):
        if not is_point_set(web, self.points) or not 0 < len(self.points) < web.points:
            return False
        return len(points_left_to(web, self.points)) <= 1


class Joint(Answer):
    def __init__(self, point, others):
        self.point = point
        self.others = list(others)

    def shows(self, web):
        return is_left_by_door(web, self.others, self.point) and len(self.others) < web.points - 1


class Turned(Answer):
    def __init__(self, begins):
        self.begins = list(begins)

    # One comes from each point to each other one just if one comes from point 0 to all and from all to it.
    def shows(self, web):
        ties = web.ties()
        if len(self.begins) != len(ties):
            return False
        if not all([begin in tie for begin, tie in zip(self.begins, ties)]):
            return False
        steps = [(begin, other_end(tie, begin)) for begin, tie in zip(self.begins, ties)]
        return len(reached(0, steps)) == web.points and len(reached(0, backwards(steps))) == web.points


class Numbers(Answer):
    def __init__(self, points):
        self.points = list(points)

    def shows(self, web, one, other):
        if not are_two_points(web, one, other) or sorted(self.points) != all_points(web):
            return False
        if self.points[0] != one or self.points[-1] != other:
            return False
        return all([is_tied_both_ways(web, self.points, place) for place in range(1, web.points - 1)])


class Pocket(Answer):
    def __init__(self, points, door):
        self.points = list(points)
        self.door = door

    def shows(self, web, one, other):
        if not are_two_points(web, one, other) or one in self.points or other in self.points:
            return False
        return is_left_by_door(web, self.points, self.door)


class Ways(Answer):
    def __init__(self, ways):
        self.ways = copied_walks(ways)

    def shows(self, web, one, other, many):
        if not are_ways(web, self.ways, one, other, many) or is_tied(web, one, other):
            return False
        inner = []
        for way in self.ways:
            inner.extend(way[0][1:-1])
        return all_differ(inner)

    def ties_apart(self, web, one, other, many):
        return are_ways(web, self.ways, one, other, many) and all_differ(places_of(self.ways))


class Wall(Answer):
    def __init__(self, points):
        self.points = list(points)

    # A tie that joins the two is a way that meets no wall, so it isn't asked for by itself.
    def shows(self, web, one, other, many):
        if not are_two_points(web, one, other) or not is_point_set(web, self.points):
            return False
        if len(self.points) >= many or one in self.points or other in self.points:
            return False
        kept = [tie for tie in web.ties() if tie[0] not in self.points and tie[1] not in self.points]
        return other not in reached(one, kept + backwards(kept))


class Part(Answer):
    def __init__(self, points):
        self.points = list(points)

    def shows(self, web, one, other, many):
        if not are_two_points(web, one, other) or not is_point_set(web, self.points):
            return False
        if one not in self.points or other in self.points:
            return False
        return len(points_left_to(web, self.points)) < many
