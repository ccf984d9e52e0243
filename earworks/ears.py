"""Webs put together by ears or turned, or the bar or joint that forbids it."""

from earworks.answers import Bar, Ears, Joint, Turned
from earworks.basics import all_points, reached
from earworks.errors import TooFew
from earworks.flows import ring_over, steps_beside, steps_but, steps_in, steps_of, way_over
from earworks.webs import Web


# What is no web at all has no points either.
def refuse_fewer(web, least):
    if not isinstance(web, Web) or web.points < least:
        raise TooFew("the web has too few points")


# The place behind the last tie leaves out none: a web without ties is asked about too.
def points_behind_a_bar(web):
    steps = steps_of(web)
    for place in range(len(web.ties()) + 1):
        points = reached(0, steps_but(steps, [place]))
        if len(points) < web.points:
            return sorted(points)
    return []


def others_behind(web, point):
    begin = 1 if point == 0 else 0
    return sorted(reached(begin, steps_beside(steps_of(web), point)))


# A ring is told only where no way is to be had: for the first ear, or round a joint.
def next_ear(steps, met):
    first = [step for step in steps if step[0] in met][0]
    way = way_over(steps, met, first)
    return ring_over(steps, first) if way is None else way


# Asked only of webs without a bar, in which each tie of a point met goes on to some point met.
def all_ears(web):
    ears = []
    met = [0]
    steps = steps_of(web)
    while len(steps) > 0:
        ear = next_ear(steps, met)
        ears.append(ear)
        met.extend(ear[0])
        steps = steps_but(steps, ear[1])
    return ears


# Each ear gone as it is told: from what is ahead of it one comes to all of its points, and back from them.
def begins_along(web, ears):
    begins = [0] * len(web.ties())
    for ear in ears:
        for step in steps_in(ear):
            begins[step[2]] = step[0]
    return begins


def eared(web):
    refuse_fewer(web, 2)
    points = points_behind_a_bar(web)
    return Bar(points) if len(points) > 0 else Ears(all_ears(web))


def turned(web):
    told = eared(web)
    return told if isinstance(told, Bar) else Turned(begins_along(web, told.ears))


def open_eared(web):
    refuse_fewer(web, 3)
    for point in all_points(web):
        others = others_behind(web, point)
        if len(others) < web.points - 1:
            return Joint(point, others)
    return Ears(all_ears(web))
