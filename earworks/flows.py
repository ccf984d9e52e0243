"""Walks sought step by step, shared by ears and by what lies between two points.

A step is a triple: where it begins, where it ends, and a name of what it goes over. Steps of one name are one thing
that can be gone but once.
"""

from earworks.basics import reached


# A tie can be gone from either end, by its place as the name.
def steps_of(web):
    steps = []
    for place, tie in enumerate(web.ties()):
        steps.append((tie[0], tie[1], place))
        steps.append((tie[1], tie[0], place))
    return steps


def steps_beside(steps, point):
    return [step for step in steps if point not in step[:2]]


def steps_but(steps, names):
    return [step for step in steps if step[2] not in names]


# The shortest comes to no point twice and to none of the ends but its last point.
def shortest_walk(steps, begin, ends):
    walks = [([begin], [])]
    met = [begin]
    place = 0
    while place < len(walks):
        points = walks[place][0]
        if points[-1] in ends:
            return walks[place]
        for step in steps:
            if step[0] == points[-1] and step[1] not in met:
                met.append(step[1])
                walks.append((points + [step[1]], walks[place][1] + [step[2]]))
        place += 1
    return None


def step_and_walk(step, walk):
    return ([step[0]] + walk[0], [step[2]] + walk[1])


# It goes on beside the point where the step begins, so that it ends at another of the points met.
def way_over(steps, met, step):
    walk = shortest_walk(steps_beside(steps, step[0]), step[1], met)
    return None if walk is None else step_and_walk(step, walk)


def ring_over(steps, step):
    return step_and_walk(step, shortest_walk(steps_but(steps, [step[2]]), step[1], [step[0]]))


def turned_back(step):
    return (step[1], step[0], step[2])


def steps_in(walk):
    return list(zip(walk[0], walk[0][1:], walk[1]))


# What is gone can be gone back, which gives it free for another walk.
def free_steps(steps, gone):
    return steps_but(steps, [step[2] for step in gone]) + [turned_back(step) for step in gone]


# A step there and a step back over the same are as good as none.
def gone_too(gone, walk):
    added = steps_in(walk)
    kept = [step for step in gone if turned_back(step) not in added]
    return kept + [step for step in added if turned_back(step) not in gone]


def most_gone(steps, begin, end, many):
    gone = []
    for turn in range(many):
        walk = shortest_walk(free_steps(steps, gone), begin, [end])
        if walk is None:
            return gone
        gone = gone_too(gone, walk)
    return gone


# So many walks, no two with a name in common, or as many as there are. Rings among what is gone are left aside.
def walks_apart(steps, begin, end, many):
    left = most_gone(steps, begin, end, many)
    walks = []
    walk = shortest_walk(left, begin, [end])
    while walk is not None:
        walks.append(walk)
        left = steps_but(left, walk[1])
        walk = shortest_walk(left, begin, [end])
    return walks


# Where no more walks are to be had, each of them leaves this side just once, and no other step leaves it.
def side_of(steps, walks, begin):
    gone = []
    for walk in walks:
        gone.extend(steps_in(walk))
    return reached(begin, free_steps(steps, gone))
