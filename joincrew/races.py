"""The touches in tracks, and the races among them."""


# In the order of units.
def touches_in(track):
    touches = []
    for mark in track.marks:
        touches.extend(mark.touches)
        for forked in mark.forked:
            touches.extend(touches_in(forked))
    return touches


# For each fork at which some race, its step and a pair of touches that do. The first touch of each
# way and cell is put into firsts: the others of its way and cell race with the same ones, so they
# need not be kept.
def races_in(track, firsts):
    races = []
    for mark in track.marks:
        for touch in mark.touches:
            firsts.setdefault(touch[2:], touch)
        if len(mark.forked) > 0:
            races.extend(races_at_fork(mark, firsts))
    return races


# What is beside one another is parted by some fork, so one side is held against the other at each.
def races_at_fork(mark, firsts):
    one = {}
    other = {}
    races = races_in(mark.forked[0], one) + races_in(mark.forked[1], other)
    pair = race_between(one, other)
    if pair is not None:
        races.append((mark.step, pair))
    for side in (one, other):
        for key in side:
            firsts.setdefault(key, side[key])
    return races


def race_between(one, other):
    for first in one.values():
        for second in other.values():
            if do_race(first, second):
                return (first, second)
    return None


def do_race(first, second):
    if first[3] != second[3]:
        return False
    return first[2] != second[2] or first[2] == "set"
