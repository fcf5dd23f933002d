"""Programs done alone: what comes of them, their measures, touches and races."""

from joincrew.measures import measured
from joincrew.races import races_in, touches_in
from joincrew.rows import OpenRow, notes_of
from joincrew.tracks import followed, track_of


def alone(program, cells):
    row = OpenRow((), program, None)
    held = list(cells)
    followed(row, held)
    return (tuple(held), tuple(notes_of(row)))


def measures(program, cells):
    return measured(track_of(program, cells))


def touched(program, cells):
    return tuple(touches_in(track_of(program, cells)))


def race(program, cells):
    races = races_in(track_of(program, cells), {})
    return races[0][1] if len(races) > 0 else None
