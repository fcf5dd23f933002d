"""The program told once more, in another way, for tests that hold the one against the other.

A row is a generator here: it stops ahead of each unit, and does it when it is asked to go on. So it can't go back:
who wants to go on from one place by several ways does all that led there anew each time.
"""

import itertools


def value_of(value, cells):
    if isinstance(value, int):
        return value
    if value[0] == "cell":
        return dict(enumerate(cells)).get(value[1], 0)
    one, other = value_of(value[1], cells), value_of(value[2], cells)
    if value[0] == "under":
        return int(one < other)
    return {"plus": one + other, "less": one - other + 1000, "times": one * other}[value[0]] % 1000


def asked(value):
    if isinstance(value, int):
        return set()
    return {value[1]} if value[0] == "cell" else asked(value[1]) | asked(value[2])


def units_of(row, cells, notes):
    """Stops ahead of each unit with its step; who asks it to go on behind a both has done its rows."""
    for step in row:
        word = step[0]
        if word == "again":
            for turn in range(step[1]):
                yield from units_of(step[2], cells, notes)
            continue
        if word == "work":
            for turn in range(step[1]):
                yield step
            continue
        yield step
        if word == "note":
            notes.append(value_of(step[1], cells))
        elif word == "if":
            yield from units_of(step[2] if value_of(step[1], cells) else step[3], cells, notes)
        elif word in ("set", "add") and step[1] < len(cells):
            held = cells[step[1]] if word == "add" else 0
            new = value_of(step[2], cells)
            cells[step[1]] = (held + new) % 1000 if word == "add" else new


def touches(step, name, unit):
    value = {"set": 2, "add": 2, "note": 1, "if": 1}.get(step[0])
    told = [] if value is None else [(name, unit, "read", k) for k in sorted(asked(step[value]))]
    if step[0] in ("set", "add"):
        told.append((name, unit, step[0], step[1]))
    return told


class Alone:
    def __init__(self, program, cells):
        self.cells = list(cells)
        self.notes = []
        self.touched = []
        self.measures = self.do(program, ())

    def do(self, row, name):
        work = depth = forks = fork = unit = 0
        for step in units_of(row, self.cells, self.notes):
            self.touched += touches(step, name, unit)
            unit += 1
            work += 1
            depth += 1
            if step[0] == "both":
                one, other = [self.do(step[1 + side], name + (fork, side)) for side in (0, 1)]
                fork += 1
                work += one[0] + other[0]
                depth += max(one[1], other[1])
                forks = max(forks, 1 + max(one[2], other[2]))
        return (work, depth, forks)


def are_beside(one, other):
    for place in range(1, min(len(one), len(other)), 2):
        if one[:place] != other[:place]:
            return False
        if one[place] != other[place]:
            return True
    return False


def are_a_race(one, other):
    return (are_beside(one[0], other[0]) and one[3] == other[3]
            and (one[2], other[2]) not in (("read", "read"), ("add", "add")))


class Row:
    def __init__(self, crew, name, row, above):
        self.name = name
        self.above = above
        self.notes = []
        self.forks = []
        self.units = units_of(row, crew.cells, self.notes)
        self.coming = next(self.units, None)

    def go_on(self):
        self.coming = next(self.units, None)

    def all_rows(self):
        rows = [self]
        for at, one, other in self.forks:
            rows += one.all_rows() + other.all_rows()
        return rows

    def all_notes(self):
        told, place = [], 0
        for at, one, other in self.forks:
            told += self.notes[place:at] + one.all_notes() + other.all_notes()
            place = at
        return told + self.notes[place:]


class Crew:
    """Has no count of anything: it asks its rows anew each time."""

    def __init__(self, program, cells, hands):
        self.cells = list(cells)
        self.hands = hands
        self.top = Row(self, (), program, None)
        self.over = {}
        self.has = {0: self.top} if program else {}
        self.piles = {hand: [] for hand in range(hands)}
        if not program:
            self.over[()] = True

    def tick(self, turns):
        givers, told = {}, []
        for hand in range(self.hands):
            if hand not in self.has:
                start = turns[hand] % self.hands
                for giver in list(range(start, self.hands)) + list(range(start)):
                    if giver != hand and self.piles[giver]:
                        self.has[hand], givers[hand] = self.piles[giver][0], giver
                        self.piles[giver] = self.piles[giver][1:]
                        break
        for hand in range(self.hands):
            if hand in self.has:
                told.append((self.has[hand].name, givers.get(hand)))
                self.do_unit(hand)
            else:
                told.append(None)
        return tuple(told)

    def do_unit(self, hand):
        row = self.has.pop(hand)
        if row.coming[0] == "both":
            name = row.name + (len(row.forks),)
            one, other = [Row(self, name + (side,), row.coming[1 + side], row) for side in (0, 1)]
            row.forks.append((len(row.notes), one, other))
            self.has[hand] = one
            self.piles[hand].append(other)
            return
        row.go_on()
        while row.coming is None:
            self.over[row.name] = True
            twin = row.name[:-1] + (1 - row.name[-1],) if row.name else None
            if twin not in self.over:
                if self.piles[hand]:
                    self.has[hand] = self.piles[hand].pop()
                return
            row = row.above
            row.go_on()
        self.has[hand] = row

    def told(self):
        """All that a crew tells of itself behind a tick."""
        named = lambda row: None if row is None else row.name
        return (
            () in self.over, tuple(self.cells), tuple(self.top.all_notes()),
            len([row for row in self.top.all_rows() if row.name not in self.over]),
            tuple(tuple(named(row) for row in self.piles[hand]) for hand in range(self.hands)),
            tuple(named(self.has.get(hand)) for hand in range(self.hands)),
        )


def papers_of(program, cells, hands):
    """All papers that there are, by all turns that there are."""
    papers = set()
    ways = [()]
    while ways:
        way = ways.pop()
        crew = Crew(program, cells, hands)
        paper = tuple(crew.tick(turns) for turns in way)
        if () in crew.over:
            papers.add(paper)
            continue
        further = {}
        for turns in itertools.product(range(hands), repeat=hands):
            further.setdefault(told_behind(program, cells, hands, way + (turns,)), turns)
        ways += [way + (turns,) for turns in further.values()]
    return papers


def told_behind(program, cells, hands, way):
    crew = Crew(program, cells, hands)
    return [crew.tick(turns) for turns in way][-1]


class Weave:
    """A program whose rows are done in whatever order; free has those that can do a unit."""

    def __init__(self, program, cells, order=()):
        self.cells = list(cells)
        self.top = Row(self, (), program, None)
        self.free = {(): self.top} if program else {}
        for name in order:
            self.do_unit(name)

    def do_unit(self, name):
        row = self.free.pop(name)
        if row.coming[0] == "both":
            fork = name + (len(row.forks),)
            pair = [Row(self, fork + (side,), row.coming[1 + side], row) for side in (0, 1)]
            row.forks.append((len(row.notes), *pair))
            self.free.update({part.name: part for part in pair})
            return
        row.go_on()
        while row.coming is None and row.above is not None:
            twin = row.above.forks[-1][2 - row.name[-1]]
            if twin.coming is not None:
                return
            row = row.above
            row.go_on()
        if row.coming is not None:
            self.free[row.name] = row

    def told(self):
        return None if self.free else (tuple(self.cells), tuple(self.top.all_notes()))


def done_in(program, cells, order):
    weave = Weave(program, cells)
    for name in order:
        if name not in weave.free:
            return None
        weave.do_unit(name)
    return weave.told()


def orders_of(program, cells):
    """Each order that does the whole program, with what comes by it."""
    orders = {}
    ways = [()]
    while ways:
        order = ways.pop()
        weave = Weave(program, cells, order)
        if weave.free:
            ways += [order + (name,) for name in weave.free]
        else:
            orders[order] = weave.told()
    return orders
