"""Crews: hands that run a program, and take work from one another."""

from joincrew.errors import NoTick
from joincrew.rows import OpenRow, notes_of


class Crew:
    def __init__(self, program, cells, hands):
        self.hand_count = hands
        self.held = list(cells)
        self.top = OpenRow((), program, None)
        first = None if self.top.is_over() else self.top
        self.had = [first if hand == 0 else None for hand in range(hands)]
        self.laid = [[] for hand in range(hands)]
        self.tick_count = 0
        self.unit_count = 0
        self.open_count = 0 if first is None else 1

    def tick(self, turns):
        if self.is_over():
            raise NoTick("the crew is over")
        givers = []
        for hand in range(self.hand_count):
            givers.append(self.take_row(hand, turns))
        told = []
        for hand, giver in enumerate(givers):
            told.append(self.work(hand, giver))
        self.tick_count += 1
        return tuple(told)

    def is_over(self):
        return self.top.is_over()

    def cells(self):
        return tuple(self.held)

    def notes(self):
        return tuple(notes_of(self.top))

    def ticks(self):
        return self.tick_count

    def units(self):
        return self.unit_count

    def open_rows(self):
        return self.open_count

    def piles(self):
        return tuple([names_of(pile) for pile in self.laid])

    def having(self):
        return names_of(self.had)

    # Tells the hand from which this one took a row, None if it took none. Its own pile may be
    # looked at too: nothing lies there while it has no row.
    def take_row(self, hand, turns):
        if self.had[hand] is not None:
            return None
        for distance in range(self.hand_count):
            giver = (turns[hand] + distance) % self.hand_count
            if len(self.laid[giver]) > 0:
                self.had[hand] = self.laid[giver].pop(0)
                return giver
        return None

    # Tells what tick tells of this hand.
    def work(self, hand, giver):
        row = self.had[hand]
        if row is None:
            return None
        forked = row.do_unit(self.held)
        self.unit_count += 1
        if len(forked) > 0:
            self.part(hand, row, forked)
        self.go_on(hand)
        return (row.name, giver)

    def part(self, hand, row, forked):
        row.waits = 2
        self.open_count += 2
        self.had[hand] = forked[0]
        # A row without a unit is over as it is opened: nobody could do one of it.
        if forked[1].is_over():
            self.end_row(forked[1])
        else:
            self.laid[hand].append(forked[1])

    def end_row(self, row):
        self.open_count -= 1
        above = row.above
        if above is not None:
            above.waits -= 1

    # Gives a hand whose row is over another one, if there is one for it.
    def go_on(self, hand):
        row = self.had[hand]
        while row is not None and row.is_over():
            self.end_row(row)
            row = row.above
        if row is not None and row.waits > 0:
            row = None
        if row is None and len(self.laid[hand]) > 0:
            row = self.laid[hand].pop()
        self.had[hand] = row


# The rows may be None where a hand has none.
def names_of(rows):
    return tuple([None if row is None else row.name for row in rows])


def most_ticks(work, depth, hands):
    return depth + (work - depth) // hands


def fewest_ticks(work, depth, hands):
    return max(depth, (work + hands - 1) // hands)
