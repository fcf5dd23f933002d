"""Orders in which a program may be done, and all that may come of them."""

from joincrew.standing import begun, cells_behind, free_row, free_rows, row_behind
from joincrew.sums import cells_asked, sum_of


def done_in(program, cells, order):
    row = begun((), program)
    noted = []
    for name in order:
        free = free_row(row, name)
        if free is None:
            return None
        step = free.coming()
        if step[0] == "note":
            noted.append((name + (free.forks,), sum_of(step[1], cells)))
        row = row_behind(row, name, cells)
        cells = cells_behind(step, cells)
    return (cells, notes_in(noted)) if row.is_over() else None


# Each number comes with its row's name, and how many forks this row had done. Such places rise as
# notes are told: () ahead of its first fork is (0,), which is less than (0, 0, 0), that than
# (0, 1, 0), that than (1,). What was noted at one place stays in order.
def notes_in(noted):
    return tuple([pair[1] for pair in sorted(noted, key=lambda pair: pair[0])])


def outcomes(program, cells):
    return tuple(sorted(orders_to_all(program, cells)))


def order_to(program, cells, goal):
    return orders_to_all(program, cells).get(goal)


# How the program's row stands, and the cells, behind an order.
class Place:
    def __init__(self, row, held, order):
        self.row = row
        self.held = held
        self.order = order


# For all cells that may come, an order by which they do. What stands alike goes on alike, so it
# is gone on from once.
def orders_to_all(program, cells):
    orders = {}
    seen = {}
    ahead = [Place(begun((), program), cells, ())]
    while len(ahead) > 0:
        place = ahead.pop()
        if place.row.is_over():
            orders[place.held] = place.order
        for further in places_behind(place):
            key = (further.row.key, further.held)
            if key not in seen:
                seen[key] = True
                ahead.append(further)
    return orders


def places_behind(place):
    places = []
    for free in rows_to_try(place.row):
        row = row_behind(place.row, free.name, place.held)
        cells = cells_behind(free.coming(), place.held)
        places.append(Place(row, cells, place.order + (free.name,)))
    return places


# Where a quiet unit can be done, it is done at once: the same cells come if it is done later.
def rows_to_try(row):
    free = free_rows(row)
    quiet = [part for part in free if is_quiet(part.coming())]
    return free if len(quiet) == 0 else quiet[:1]


# Whether a unit of this step changes no cell, and its row goes on alike whatever they hold.
def is_quiet(step):
    if step[0] == "if":
        return len(cells_asked(step[1])) == 0
    return step[0] in ("note", "work", "both")
