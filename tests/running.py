"""Programs to be run, and turns to run them by, for several tests."""

import random

SUM_WORDS = ("plus", "less", "times", "under")
OWN, READ, ADD, NONE = "own", "read", "add", "none"


def any_turns(chance, hands):
    return tuple(chance.choice((chance.randint(-7, 7), chance.randint(-10 ** 12, 10 ** 12))) for hand in range(hands))


def any_cells(chance):
    return tuple(chance.choice((0, 1, 2, 999, chance.randint(0, 999))) for k in range(chance.randint(1, 6)))


class Maker:
    """Makes programs. rights tells of each cell what a row may do with it."""

    def __init__(self, seed, parted):
        self.chance = random.Random(seed)
        self.parted = parted

    def program(self):
        rights = {k: OWN for k in range(6 if self.parted else self.chance.choice((1, 2, 6)))}
        return self.row(rights, self.chance.randint(0, 5), self.chance.choice((0, 1, 2, 3)))

    def row(self, rights, depth, fewest):
        return tuple(self.step(rights, depth) for turn in range(self.chance.randint(fewest, 3)))

    def value(self, rights, words=2):
        leaves = [self.chance.choice((0, 1, 2, 999))]
        leaves += [("cell", k) for k in rights if rights[k] in (OWN, READ)]
        if words == 0 or self.chance.random() < 0.5:
            return self.chance.choice(leaves)
        return (self.chance.choice(SUM_WORDS), self.value(rights, words - 1), self.value(rights, words - 1))

    def step(self, rights, depth):
        word = self.chance.choice(("set", "add", "note", "work") + (("if", "again", "both", "both", "both") if depth else ()))
        if word in ("set", "add"):
            ways = (OWN,) if word == "set" else (OWN, ADD)
            cells = [k for k in rights if rights[k] in ways]
            return (word, self.chance.choice(cells), self.value(rights)) if cells else ("work", 1)
        if word == "note":
            return (word, self.value(rights))
        if word == "work":
            return (word, self.chance.randint(1, 3))
        if word == "if":
            return (word, self.value(rights), self.row(rights, depth - 1, 0), self.row(rights, depth - 1, 0))
        if word == "again":
            return (word, self.chance.randint(1, 3), self.row(rights, depth - 1, 1))
        one, other = self.part(rights) if self.parted else (rights, rights)
        return (word, self.row(one, depth - 1, 1), self.row(other, depth - 1, 1))

    def part(self, rights):
        """Rights for two rows beside one another by which no two places of theirs race."""
        one, other = {}, {}
        for k in rights:
            pairs = {OWN: ((OWN, NONE), (NONE, OWN), (READ, READ), (ADD, ADD))}.get(rights[k], ((rights[k],) * 2,))
            one[k], other[k] = self.chance.choice(pairs)
        return one, other


def programs_with_cells(count, parted, seed):
    """So many pairs of a program and cells, the same ones each time; parted ones have no race."""
    maker = Maker(seed, parted)
    return [(maker.program(), any_cells(maker.chance)) for turn in range(count)]


def units_at_most(row):
    """No order of a program does more units than so many."""
    units = 0
    for step in row:
        if step[0] == "work":
            units += step[1]
        elif step[0] == "again":
            units += step[1] * units_at_most(step[2])
        elif step[0] == "if":
            units += 1 + max(units_at_most(step[2]), units_at_most(step[3]))
        elif step[0] == "both":
            units += 1 + units_at_most(step[1]) + units_at_most(step[2])
        else:
            units += 1
    return units


def small_programs(count, parted, seed, units=12):
    """So many pairs of a program with a fork, of which no order does more than so many units, and cells."""
    maker = Maker(seed, parted)
    found = []
    while len(found) < count:
        program = maker.program()
        if "'both'" in str(program) and units_at_most(program) <= units:
            found.append((program, any_cells(maker.chance)))
    return found


def racing_step(chance, depth):
    word = chance.choice(("set", "set", "add", "note", "if", "again", "both", "both") if depth else ("set", "add"))
    cell = ("cell", chance.randint(0, 1))
    if word in ("set", "add"):
        return (word, chance.randint(0, 1), (chance.choice(SUM_WORDS[:3]), cell, chance.randint(2, 9)))
    if word == "note":
        return (word, cell)
    if word == "again":
        return (word, 2, racing_row(chance, 1, depth - 1))
    if word == "if":
        return (word, ("under", cell, chance.randint(1, 500)), racing_row(chance, 0, depth - 1), racing_row(chance, 0, depth - 1))
    return (word, racing_row(chance, 1, depth - 1), racing_row(chance, 1, depth - 1))


def racing_row(chance, fewest, depth):
    return tuple(racing_step(chance, depth) for turn in range(chance.randint(fewest, 3)))


def racing_programs(count, seed, fewest=1, most=12):
    """As small_programs, but most of them end with unlike cells by unlike orders."""
    chance = random.Random(seed)
    found = []
    while len(found) < count:
        program = (("both", racing_row(chance, 1, 2), racing_row(chance, 1, 2)),) + racing_row(chance, 0, 1)
        if fewest <= units_at_most(program) <= most:
            found.append((program, (chance.randint(0, 999), chance.randint(0, 999))))
    return found
