"""The papers of runs, which tell what each hand did in each tick."""

from joincrew.crews import Crew
from joincrew.things import is_whole


def run(program, cells, hands, seed):
    crew = Crew(program, cells, hands)
    paper = []
    while not crew.is_over():
        paper.append(crew.tick(turns_at(crew.ticks(), hands, seed)))
    return (tuple(paper), crew.cells(), crew.notes())


def turns_at(tick, hands, seed):
    return tuple([seed + 7 * tick + 3 * hand for hand in range(hands)])


def is_paper(program, cells, hands, thing):
    if not isinstance(thing, tuple):
        return False
    crew = Crew(program, cells, hands)
    for part in thing:
        if crew.is_over() or not is_next_tick(crew, hands, part):
            return False
    return crew.is_over()


# Ticks the crew by the turns that could lead to what the thing tells. If other turns could, these
# do too: a hand that is turned to the very pile from which it took looks at no other one first.
def is_next_tick(crew, hands, thing):
    if not isinstance(thing, tuple) or len(thing) != hands:
        return False
    turns = tuple([giver_in(part) for part in thing])
    return is_same(thing, crew.tick(turns))


# Where no hand is told from which something was taken, any turn will do.
def giver_in(thing):
    if isinstance(thing, tuple) and len(thing) == 2 and is_whole(thing[1]):
        return thing[1]
    return 0


# told has nothing but tuples, whole numbers and None. Python calls 1 and True equal, so it is not
# asked of whole things.
def is_same(thing, told):
    if isinstance(told, tuple):
        return isinstance(thing, tuple) and are_same(thing, told)
    if told is None:
        return thing is None
    return is_whole(thing) and thing == told


def are_same(things, told):
    if len(things) != len(told):
        return False
    for one, other in zip(things, told):
        if not is_same(one, other):
            return False
    return True
