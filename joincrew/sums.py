"""What comes of sums, and which cells they ask."""

BEYOND_NUMBERS = 1000


def sum_of(value, cells):
    if isinstance(value, int):
        return value
    if value[0] == "cell":
        return cells[value[1]] if is_there(value[1], cells) else 0
    return combined(value[0], sum_of(value[1], cells), sum_of(value[2], cells))


def combined(word, one, other):
    if word == "under":
        return 1 if one < other else 0
    if word == "plus":
        return (one + other) % BEYOND_NUMBERS
    if word == "less":
        return (one - other) % BEYOND_NUMBERS
    return one * other % BEYOND_NUMBERS


# A number below 0 would be an index to Python, but it is no cell.
def is_there(k, cells):
    return 0 <= k < len(cells)


# Rising, each cell once.
def cells_asked(value):
    return sorted(set(all_asked(value)))


def all_asked(value):
    if isinstance(value, int):
        return []
    if value[0] == "cell":
        return [value[1]]
    return all_asked(value[1]) + all_asked(value[2])
