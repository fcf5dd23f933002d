"""The touches in tracks, and the races among them."""


# In the order of units.
def touches_in(track):
    touches = []
    for mark in track.marks:
        touches.extend(mark[0])
        for forked in mark[1]:
            touches.extend(touches_in(forked))
    return touches


# A pair of touches that race, None if there is none. The first touch of each way and cell is
# put into firsts: the others of its way and cell race with the same ones, so they need not be kept.
def race_in(track, firsts):
    for mark in track.marks:
        for touch in mark[0]:
            firsts.setdefault(touch[2:], touch)
        found = race_at_fork(mark[1], firsts)
        if found is not None:
            return found
    return None


# What is beside one another is parted by some fork, so one side is held against the other at each.
def race_at_fork(forked, firsts):
    sides = []
    for track in forked:
        side = {}
        found = race_in(track, side)
        if found is not None:
            return found
        sides.append(side)
    if len(sides) == 2:
        found = race_between(sides[0], sides[1])
        if found is not None:
            return found
    for side in sides:
        for key in side:
            firsts.setdefault(key, side[key])
    return None


def race_between(one, other):
    for first in one.values():
        for second in other.values():
            if do_race(first, second):
                return (first, second)
    return None


def do_race(first, second):
    if first[3] != second[3]:
        return False
    return first[2] != second[2] or first[2] == "set"
