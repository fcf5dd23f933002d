"""What sums, programs and cells are."""

DEEPEST_SUM = 4
DEEPEST_ROW = 6
MOST_CELLS = 6

SUM_WORDS = ("plus", "less", "times", "under")

# The kinds of what stands behind the word of each step, in order.
STEP_PARTS = {
    "set": ("cell", "sum"),
    "add": ("cell", "sum"),
    "note": ("sum",),
    "work": ("units",),
    "if": ("sum", "row", "row"),
    "again": ("rounds", "full row"),
    "both": ("full row", "full row"),
}

# The least and the greatest number of each kind.
NUMBER_BOUNDS = {
    "number": (0, 999),
    "cell": (0, 5),
    "units": (1, 9),
    "rounds": (1, 4),
}

# The fewest and the most steps in a row of each kind.
ROW_BOUNDS = {
    "row": (0, 6),
    "full row": (1, 6),
}


def is_sum(thing):
    return is_sum_within(thing, DEEPEST_SUM)


def is_program(thing):
    return is_row(thing, "row", DEEPEST_ROW)


def are_cells(thing):
    if not isinstance(thing, tuple) or not 1 <= len(thing) <= MOST_CELLS:
        return False
    for part in thing:
        if not is_number(part, "number"):
            return False
    return True


def is_number(thing, kind):
    bounds = NUMBER_BOUNDS[kind]
    return is_whole(thing) and bounds[0] <= thing <= bounds[1]


# A truth is an int to Python, but no whole number here.
def is_whole(thing):
    return isinstance(thing, int) and not isinstance(thing, bool)


# words_left: how many more words may lie in one another.
def is_sum_within(thing, words_left):
    if not isinstance(thing, tuple):
        return is_number(thing, "number")
    if len(thing) == 2:
        return thing[0] == "cell" and is_number(thing[1], "cell")
    if len(thing) != 3 or thing[0] not in SUM_WORDS or words_left == 0:
        return False
    return is_sum_within(thing[1], words_left - 1) and is_sum_within(thing[2], words_left - 1)


# steps_left: how many more steps with rows may lie in one another.
def is_row(thing, kind, steps_left):
    if not isinstance(thing, tuple):
        return False
    bounds = ROW_BOUNDS[kind]
    if not bounds[0] <= len(thing) <= bounds[1]:
        return False
    for part in thing:
        if not is_step(part, steps_left):
            return False
    return True


def is_step(thing, steps_left):
    if not isinstance(thing, tuple) or len(thing) == 0:
        return False
    # A list can't be asked for in a dict: so what is no text is turned away first.
    if not isinstance(thing[0], str) or thing[0] not in STEP_PARTS:
        return False
    kinds = STEP_PARTS[thing[0]]
    if len(thing) != len(kinds) + 1:
        return False
    for part, kind in zip(thing[1:], kinds):
        if not is_part(part, kind, steps_left):
            return False
    return True


def is_part(thing, kind, steps_left):
    if kind == "sum":
        return is_sum(thing)
    if kind in ROW_BOUNDS:
        return steps_left > 0 and is_row(thing, kind, steps_left - 1)
    return is_number(thing, kind)
