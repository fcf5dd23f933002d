"""How a program stands, in a form that is never changed: so many ways can be gone on from one place."""

from joincrew.rows import ahead_of, put, rest_behind, unfolded


# rest is a chain, as rows keep it. parts are the rows of its last fork that are not over: it waits
# as long as there are some.
class Standing:
    def __init__(self, name, rest, forks, parts):
        self.name = name
        self.rest = rest
        self.forks = forks
        self.parts = parts
        # The same for rows that stand alike.
        self.key = (name, rest, forks, tuple([part.key for part in parts]))

    def is_over(self):
        return self.rest is None and len(self.parts) == 0

    # The step of the next unit.
    def coming(self):
        return self.rest[0]


def begun(name, row):
    return Standing(name, unfolded(ahead_of(row, None)), 0, ())


# Those rows, this one or some below it, in which a unit can be done.
def free_rows(row):
    if len(row.parts) == 0:
        return [] if row.is_over() else [row]
    rows = []
    for part in row.parts:
        rows.extend(free_rows(part))
    return rows


# The row of this name, None if there is none in which a unit can be done.
def free_row(row, name):
    if len(row.parts) == 0:
        return row if row.name == name and not row.is_over() else None
    for part in row.parts:
        if leads_to(part, name):
            return free_row(part, name)
    return None


def leads_to(row, name):
    return name[:len(row.name)] == row.name


# How a row stands behind a unit that is done in the one of this name.
def row_behind(row, name, cells):
    if row.name == name:
        return own_behind(row, cells)
    parts = [row_behind(part, name, cells) if leads_to(part, name) else part for part in row.parts]
    return Standing(row.name, row.rest, row.forks, not_over(parts))


def own_behind(row, cells):
    step = row.coming()
    rest = rest_behind(row.rest, cells)
    if step[0] != "both":
        return Standing(row.name, rest, row.forks, ())
    parts = [begun(row.name + (row.forks, side), step[1 + side]) for side in range(2)]
    return Standing(row.name, rest, row.forks + 1, not_over(parts))


def not_over(rows):
    return tuple([row for row in rows if not row.is_over()])


def cells_behind(step, cells):
    if step[0] not in ("set", "add"):
        return cells
    held = list(cells)
    put(step, held)
    return tuple(held)
