"""The texts of programs."""

from joincrew.things import ROW_BOUNDS, STEP_PARTS


def written(program):
    return written_row(program)


def written_row(row):
    if len(row) == 0:
        return "{ }"
    steps = " ; ".join([written_step(step) for step in row])
    return "{ " + steps + " }"


def written_step(step):
    parts = [written_part(part, kind) for part, kind in zip(step[1:], STEP_PARTS[step[0]])]
    return " ".join([step[0]] + parts)


def written_part(part, kind):
    if kind == "sum":
        return written_sum(part)
    if kind in ROW_BOUNDS:
        return written_row(part)
    return str(part)


def written_sum(value):
    if isinstance(value, int):
        return str(value)
    if value[0] == "cell":
        return "c" + str(value[1])
    return " ".join([value[0], written_sum(value[1]), written_sum(value[2])])
