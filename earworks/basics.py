"""What webs and answers ask alike: of numbers, points, ties, sets of points and walks."""


# True and False pass for whole numbers in Python, but are none here.
def is_number(value):
    return isinstance(value, int) and not isinstance(value, bool)


def all_differ(numbers):
    return len(set(numbers)) == len(numbers)


def has_point(web, point):
    return 0 <= point < web.points


def are_two_points(web, one, other):
    return has_point(web, one) and has_point(web, other) and one != other


def all_points(web):
    return list(range(web.points))


def is_point_set(web, points):
    return points == [point for point in all_points(web) if point in points]


# A web tells each tie with its lesser point first, whichever way it is gone.
def tie_between(one, other):
    return (min(one, other), max(one, other))


def is_tied(web, one, other):
    return tie_between(one, other) in web.ties()


def other_end(tie, point):
    return tie[1] if point == tie[0] else tie[0]


# One entry for each tie that leaves the points, so that the entries also count those ties.
def points_left_to(web, points):
    leaving = [tie for tie in web.ties() if (tie[0] in points) != (tie[1] in points)]
    return [tie[1] if tie[0] in points else tie[0] for tie in leaving]


# What a Joint and a Pocket have in common.
def is_left_by_door(web, points, door):
    if not is_point_set(web, points) or len(points) < 1:
        return False
    if not has_point(web, door) or door in points:
        return False
    return all([point == door for point in points_left_to(web, points)])


def backwards(steps):
    return [(step[1], step[0]) for step in steps]


def reached(begin, steps):
    found = [begin]
    place = 0
    while place < len(found):
        for step in steps:
            if step[0] == found[place] and step[1] not in found:
                found.append(step[1])
        place += 1
    return found


def is_walk(web, walk):
    points = walk[0]
    places = walk[1]
    ties = web.ties()
    if len(points) != len(places) + 1:
        return False
    if not all([has_point(web, point) for point in points]):
        return False
    if not all([0 <= place < len(ties) for place in places]):
        return False
    return all([ties[place] == tie_between(points[k], points[k + 1]) for k, place in enumerate(places)])


# Where no point comes twice, no tie does.
def is_way(web, walk):
    return is_walk(web, walk) and all_differ(walk[0])


# A ring of two ties could go one of them there and back, so the ties are asked too.
def is_ring(web, walk):
    if not is_walk(web, walk) or len(walk[1]) < 2:
        return False
    return walk[0][0] == walk[0][-1] and all_differ(walk[0][1:]) and all_differ(walk[1])
