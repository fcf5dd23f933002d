"""The rows in steps, and steps with other rows in them."""

# The places of the first row in a step of this word, and behind its last one.
ROW_PLACES = {
    "if": (2, 4),
    "again": (2, 3),
    "both": (1, 3),
}


# In the order in which they stand in the step's text.
def rows_of(step):
    if step[0] not in ROW_PLACES:
        return ()
    places = ROW_PLACES[step[0]]
    return step[places[0]:places[1]]


# The step with these rows in the places of its own.
def with_rows(step, rows):
    if step[0] not in ROW_PLACES:
        return step
    places = ROW_PLACES[step[0]]
    return step[:places[0]] + tuple(rows) + step[places[1]:]


# The step in the place of a both: its rows, one behind the other.
def in_its_place(rows):
    return ("if", 1, rows[0] + rows[1], ())
