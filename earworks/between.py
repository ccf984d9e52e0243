"""What lies between two points: all points in a row, ways apart, or what stands against them."""

from earworks.answers import Numbers, Part, Pocket, Wall, Ways
from earworks.basics import all_points, are_two_points, is_number, is_tied, reached
from earworks.errors import BadCount, BadPoint, Tied
from earworks.flows import side_of, steps_beside, steps_of, walks_apart, way_over
from earworks.webs import Web

MOST_WAYS = 8
MOST_WAYS_BY_TIES = 14


# What is no web at all has no points.
def are_points_of(web, one, other):
    return isinstance(web, Web) and is_number(one) and is_number(other) and are_two_points(web, one, other)


# The refusals don't show what was handed in: it may be of a kind that can't be shown.
def refuse_points(web, one, other):
    if not are_points_of(web, one, other):
        raise BadPoint("two different points of the web are asked for")


def refuse_tied(web, one, other):
    if is_tied(web, one, other):
        raise Tied("a tie joins the two points")


def refuse_count(many, most):
    if not is_number(many) or not 1 <= many <= most:
        raise BadCount("the count is out of its bounds")


def points_behind(web, one, other, door):
    steps = steps_beside(steps_of(web), door)
    met = reached(one, steps) + reached(other, steps) + [door]
    return [point for point in all_points(web) if point not in met]


# Put in behind that end which is ahead, so that each new point has the ones before and after it on the way so too.
def with_way(row, points):
    if row.index(points[0]) > row.index(points[-1]):
        return with_way(row, list(reversed(points)))
    place = row.index(points[0]) + 1
    return row[:place] + points[1:-1] + row[place:]


# Asked only where there is no pocket, so that a way leads on from each point met to another one.
def row_between(web, one, other):
    row = [one, other]
    steps = steps_of(web)
    while len(row) < web.points:
        first = [step for step in steps if step[0] in row and step[1] not in row][0]
        row = with_way(row, way_over(steps, row, first)[0])
    return row


# Each point is parted into where it is come to and where it is left, with one step between, gone but once.
def steps_through(web):
    steps = [((point, "in"), (point, "out"), point) for point in all_points(web)]
    for step in steps_of(web):
        steps.append(((step[0], "out"), (step[1], "in"), step))
    return steps


# Every second step goes through a point, the others over a tie.
def way_along(walk):
    points = [node[0] for node in walk[0][:1] + walk[0][1::2]]
    return (points, [step[2] for step in walk[1][::2]])


# Each way leaves the side by one step, into a point or through it. Never into the other: the point ahead of that is
# left by no other step gone, so that where it is left could be reached back from the other alone.
def wall_along(steps, side):
    return sorted([step[1][0] for step in steps if step[0] in side and step[1] not in side])


def numbered(web, one, other):
    refuse_points(web, one, other)
    for door in all_points(web):
        points = points_behind(web, one, other, door)
        if len(points) > 0:
            return Pocket(points, door)
    return Numbers(row_between(web, one, other))


def ways(web, one, other, many):
    refuse_points(web, one, other)
    refuse_tied(web, one, other)
    refuse_count(many, MOST_WAYS)
    steps = steps_through(web)
    begin = (one, "out")
    walks = walks_apart(steps, begin, (other, "in"), many)
    if len(walks) == many:
        return Ways([way_along(walk) for walk in walks])
    return Wall(wall_along(steps, side_of(steps, walks, begin)))


def apart(web, one, other, many):
    refuse_points(web, one, other)
    refuse_count(many, MOST_WAYS_BY_TIES)
    steps = steps_of(web)
    walks = walks_apart(steps, one, other, many)
    if len(walks) == many:
        return Ways(walks)
    return Part(sorted(side_of(steps, walks, one)))
