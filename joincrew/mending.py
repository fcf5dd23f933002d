"""Programs mended: forks taken away, so that no two places race."""

from joincrew.races import races_in
from joincrew.steps import in_its_place, rows_of, with_rows
from joincrew.tracks import track_of


def count_boths(program):
    boths = []
    numbered(program, boths)
    return len(boths)


def without_boths(program, numbers):
    return row_without(numbered(program, []), numbers)


# Two places beside one another are parted by one fork alone. A fork that is taken away changes
# neither the order in which all is done alone, nor which forks part others. So each fork at which
# some race must go, and no other one.
def mended(program, cells):
    races = races_in(track_of(numbered(program, []), cells), {})
    return tuple(sorted(set([number_of(race[0]) for race in races])))


# The row with the number of each both put behind its rows. boths has those that stand ahead of this
# row in the text; those of the row are put to them.
def numbered(row, boths):
    return tuple([numbered_step(step, boths) for step in row])


def numbered_step(step, boths):
    behind = ()
    if step[0] == "both":
        behind = (len(boths),)
        boths.append(step)
    return with_rows(step, [numbered(row, boths) for row in rows_of(step)]) + behind


def number_of(step):
    return step[3]


# The row is a numbered one, what is told is not.
def row_without(row, numbers):
    return tuple([step_without(step, numbers) for step in row])


def step_without(step, numbers):
    rows = [row_without(row, numbers) for row in rows_of(step)]
    if step[0] != "both":
        return with_rows(step, rows)
    if number_of(step) in numbers:
        return in_its_place(rows)
    return ("both", rows[0], rows[1])
