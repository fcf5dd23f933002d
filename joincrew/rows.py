"""Open rows, which do their steps unit by unit."""

from joincrew.sums import BEYOND_NUMBERS, is_there, sum_of


# above is the row that forked this one, None for the program's row.
class OpenRow:
    def __init__(self, name, row, above):
        self.name = name
        self.above = above
        self.rest = unfolded(ahead_of(row, None))
        self.forks = 0
        # How many rows of its last fork it waits for: who runs it keeps count of that.
        self.waits = 0
        # Its numbers, and the rows that it forked, in the order in which their notes are told.
        self.noted = []

    def is_over(self):
        return self.rest is None and self.waits == 0

    # The step of the next unit.
    def coming(self):
        return self.rest[0]

    # cells is a list, and is changed. Tells the rows that are forked by this unit.
    def do_unit(self, cells):
        step = self.rest[0]
        self.rest = rest_behind(self.rest, cells)
        if step[0] == "both":
            return self.fork(step)
        if step[0] == "note":
            self.noted.append(sum_of(step[1], cells))
        if step[0] in ("set", "add"):
            put(step, cells)
        return []

    def fork(self, step):
        forked = [OpenRow(self.name + (self.forks, side), step[1 + side], self) for side in range(2)]
        self.forks += 1
        self.noted.extend(forked)
        return forked


# What is left of a row is a chain, a step and the chain behind it, with None at its end:
# so the steps of a row in it can be put ahead, and no place in a program need be kept.
def ahead_of(row, rest):
    for step in reversed(row):
        rest = (step, rest)
    return rest


# A chain whose first step has a unit to do at once: what has none is put aside, and an again
# is put as a round ahead of the others.
def unfolded(rest):
    while rest is not None and rest[0][0] in ("work", "again"):
        step = rest[0]
        if step[1] > 0 and step[0] == "work":
            return rest
        rest = rest[1]
        if step[1] > 0:
            rest = ahead_of(step[2], (("again", step[1] - 1, step[2]), rest))
    return rest


# What is left behind the first unit of a chain.
def rest_behind(rest, cells):
    step = rest[0]
    behind = rest[1]
    if step[0] == "work":
        behind = (("work", step[1] - 1), behind)
    if step[0] == "if":
        behind = ahead_of(step[2] if sum_of(step[1], cells) != 0 else step[3], behind)
    return unfolded(behind)


def put(step, cells):
    number = sum_of(step[2], cells)
    if not is_there(step[1], cells):
        return
    if step[0] == "add":
        number = (cells[step[1]] + number) % BEYOND_NUMBERS
    cells[step[1]] = number


# What a row noted, and all that it forked, by the order of rows.
def notes_of(row):
    notes = []
    for part in row.noted:
        if isinstance(part, OpenRow):
            notes.extend(notes_of(part))
        else:
            notes.append(part)
    return notes
