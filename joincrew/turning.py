"""Programs turned: rows exchanged, forks made one row behind the other, other numbers of hands."""

from joincrew.papers import run
from joincrew.steps import in_its_place, rows_of, with_rows

MOST_HANDS = 6


def exchanged(program):
    return tuple([exchanged_step(step) for step in program])


def exchanged_step(step):
    rows = [exchanged(row) for row in rows_of(step)]
    if step[0] == "both":
        rows = list(reversed(rows))
    return with_rows(step, rows)


def in_a_row(program):
    return tuple([step_in_a_row(step) for step in program])


def step_in_a_row(step):
    rows = [in_a_row(row) for row in rows_of(step)]
    if step[0] == "both":
        return in_its_place(rows)
    return with_rows(step, rows)


def with_hands(program, cells, seed):
    return tuple([len(run(program, cells, hands, seed)[0]) for hands in range(1, MOST_HANDS + 1)])
