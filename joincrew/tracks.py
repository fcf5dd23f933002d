"""The tracks of rows that are done alone: how long they are, and what is touched where."""

from joincrew.rows import OpenRow
from joincrew.sums import cells_asked


# Units with neither touches nor forks have no mark, so that work may be long.
class Track:
    def __init__(self):
        self.length = 0
        self.marks = []


# A unit's step, what the unit touches, and the tracks of the two rows that it forks, if it does.
class Mark:
    def __init__(self, step, touches, forked):
        self.step = step
        self.touches = touches
        self.forked = forked


def track_of(program, cells):
    return followed(OpenRow((), program, None), list(cells))


# Does a row alone, and all that it forks. cells is a list, and is changed.
def followed(row, cells):
    track = Track()
    while not row.is_over():
        step = row.coming()
        touches = [(row.name, track.length, way, k) for way, k in ways_of(step)]
        forked = [followed(part, cells) for part in row.do_unit(cells)]
        if len(touches) + len(forked) > 0:
            track.marks.append(Mark(step, touches, forked))
        track.length += 1
    return track


# How a unit of this step touches cells, and which ones.
def ways_of(step):
    if step[0] in ("work", "both"):
        return []
    if step[0] in ("note", "if"):
        return reads_of(step[1])
    return reads_of(step[2]) + [(step[0], step[1])]


def reads_of(value):
    return [("read", k) for k in cells_asked(value)]
