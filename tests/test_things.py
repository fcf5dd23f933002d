import copy
import unittest

from joincrew.things import are_cells, is_program, is_sum
from samples import (LEAVES, PLAIN_STEPS, SUM_PLACES, SUM_WORDS, WRAPPERS, around, deep_rows, deep_sum, full_sum,
                     programs)

# Things that are no number, no sum, no row and no cells, wherever they stand.
NEVER = (
    None, True, False, "", "0", "c0", "plus", "set", "{ }", "work 1", [], [0], [1, 2], {}, -1, 1000, 10 ** 40,
    (None,), ("",), (True,), ([],), ((),), ((), ()), ((), (), ()), ("cell",), ("cell", 0, 0), ("plus",),
)


def nested(depth, kind):
    thing = kind([])
    for turn in range(depth):
        thing = kind([thing])
    return thing


def nested_with_words(depth):
    """Things far too deep, but otherwise of the form of sums and of rows."""
    row = deep_rows(depth // 2)
    return (deep_sum(depth), deep_sum(depth, "under", 2), row, deep_rows(depth // 2, "if", 2, ()))


# Each part is the one below it, twice: walked to the ground these would never end.
def doubled_sum(depth):
    thing = 1
    for turn in range(depth):
        thing = ("plus", thing, thing)
    return thing


def doubled_rows(depth):
    row = (("work", 1),)
    for turn in range(depth):
        row = (("both", row, row),) * 6
    return row


class Things(unittest.TestCase):
    def holds(self, ask, thing):
        self.tells(ask, thing, True)

    def fails(self, ask, thing):
        self.tells(ask, thing, False)

    def tells(self, ask, thing, wanted):
        told = ask(thing)
        # Shown only where it fails: the doubled things have no end when they are shown.
        if told is not wanted:
            self.fail(f"{ask.__name__} told {told!r} of {thing!r:.300}")


class Cells(Things):
    def test_ordinary_cells_and_those_at_the_edges(self):
        for thing in ((0,), (999,), (1, 2, 3), (0, 999, 0, 999, 0, 999), (5,) * 6, (500, 0)):
            self.holds(are_cells, thing)

    def test_too_few_and_too_many(self):
        for thing in ((), (0,) * 7, (0,) * 100):
            self.fails(are_cells, thing)

    def test_a_part_that_is_no_such_number(self):
        for part in NEVER + (("cell", 0), ("plus", 1, 2), (1,), "1"):
            for length in (1, 3, 6):
                for place in {0, length // 2, length - 1}:
                    self.fails(are_cells, (0,) * place + (part,) + (0,) * (length - place - 1))

    def test_other_things(self):
        for thing in NEVER + (0, 1, 999, [0], [0, 1, 2], "012", ((0,),)):
            self.fails(are_cells, thing)

    def test_deep_things(self):
        for depth in (30, 35):
            for thing in (nested(depth, list), nested(depth, tuple)) + nested_with_words(depth):
                self.fails(are_cells, thing)
                self.fails(are_cells, (1, thing))


class Sums(Things):
    def test_numbers_and_cells_to_their_edges(self):
        for thing in (0, 1, 500, 998, 999):
            self.holds(is_sum, thing)
        for k in range(6):
            self.holds(is_sum, ("cell", k))

    def test_each_word_with_each_pair_of_leaves(self):
        for word in SUM_WORDS:
            for one in LEAVES:
                for other in LEAVES:
                    self.holds(is_sum, (word, one, other))

    def test_numbers_beyond(self):
        for thing in (-1, -999, 1000, 1001, 10 ** 30, -10 ** 30):
            self.fails(is_sum, thing)
            self.fails(is_sum, ("plus", thing, 1))
            self.fails(is_sum, ("times", 1, thing))

    def test_cells_beyond_and_of_other_kinds(self):
        for k in (-1, 6, 7, 999, True, False, None, "0", (), (0,), [0], ("cell", 0)):
            self.fails(is_sum, ("cell", k))
            self.fails(is_sum, ("less", ("cell", k), 0))

    def test_truths_are_no_numbers(self):
        for thing in (True, False):
            self.fails(is_sum, thing)
            for word in SUM_WORDS:
                self.fails(is_sum, (word, thing, 1))
                self.fails(is_sum, (word, 1, thing))

    def test_other_words(self):
        for word in ("", "Plus", "plus ", "minus", "over", "cell", "c", "set", "note", None, 0, True, (), [], ["plus"],
                     ("plus",), ([],)):
            self.fails(is_sum, (word, 1, 2))
        for word in ("", "Cell", "cells", "c", "plus", "work", "note", None, 0, [], ("cell",), ["cell"]):
            self.fails(is_sum, (word, 1))

    def test_parts_too_few_or_too_many(self):
        for word in SUM_WORDS:
            for parts in ((), (1,), (1, 2, 3), (1, 2, 3, 4)):
                self.fails(is_sum, (word,) + parts)
        for thing in ((), ("cell",), ("cell", 1, 2), ("cell", 1, 2, 3), (1,), (1, 2), (1, 2, 3)):
            self.fails(is_sum, thing)

    def test_lists_stand_nowhere(self):
        for thing in ([], [1], ["cell", 0], ["plus", 1, 2], ("plus", ["cell", 0], 1), ("plus", 1, ["less", 1, 2])):
            self.fails(is_sum, thing)

    def test_four_words_deep_and_five(self):
        for word in SUM_WORDS:
            for side in (1, 2):
                for depth in range(5):
                    self.holds(is_sum, deep_sum(depth, word, side))
                for depth in range(5, 12):
                    self.fails(is_sum, deep_sum(depth, word, side))
        self.holds(is_sum, full_sum(4))
        self.fails(is_sum, full_sum(5))

    def test_a_wrong_part_wherever_it_lies(self):
        for part in NEVER:
            for word in SUM_WORDS:
                for thing in ((word, part, 1), (word, 1, part), ("plus", 1, (word, 0, part)),
                              ("less", ("times", ("under", part, 1), 1), 1)):
                    self.fails(is_sum, thing)

    def test_other_things(self):
        for thing in NEVER + PLAIN_STEPS + tuple((step,) for step in PLAIN_STEPS):
            self.fails(is_sum, thing)

    def test_deep_things(self):
        for depth in (30, 35):
            for thing in (nested(depth, list), nested(depth, tuple)) + nested_with_words(depth):
                self.fails(is_sum, thing)
                self.fails(is_sum, ("plus", 1, thing))
                self.fails(is_sum, (thing, 1, 1))
        self.fails(is_sum, doubled_sum(30))


class Programs(Things):
    def holds_everywhere(self, step):
        for wrapper in WRAPPERS:
            for row in ((step,), (step, ("work", 1)), (("note", 0), step), (("work", 9),) * 5 + (step,)):
                self.holds(is_program, wrapper(row))

    def fails_everywhere(self, step):
        for wrapper in WRAPPERS:
            for row in ((step,), (step, ("work", 1)), (("note", 0), step), (("work", 9),) * 5 + (step,)):
                self.fails(is_program, wrapper(row))

    def test_each_step_to_its_edges(self):
        for step in PLAIN_STEPS:
            self.holds_everywhere(step)
        for k in range(6):
            self.holds_everywhere(("set", k, 1))
            self.holds_everywhere(("add", k, 1))
        for n in range(1, 10):
            self.holds_everywhere(("work", n))
        for n in range(1, 5):
            self.holds_everywhere(("again", n, (("work", 1),)))

    def test_cells_beyond(self):
        for k in (-1, 6, 7, 999, True, False, None, "0", (), (0,), [0], ("cell", 0)):
            self.fails_everywhere(("set", k, 1))
            self.fails_everywhere(("add", k, 1))

    def test_work_beyond(self):
        for n in (-1, 0, 10, 11, 999, True, False, None, "1", (), (1,), [1], ("cell", 0), ("plus", 1, 1)):
            self.fails_everywhere(("work", n))

    def test_rounds_beyond(self):
        for n in (-1, 0, 5, 6, 9, 999, True, False, None, "1", (), (1,), [1], ("cell", 0), ("plus", 1, 1)):
            self.fails_everywhere(("again", n, (("work", 1),)))

    def test_sums_to_their_edges_wherever_one_stands(self):
        for place in SUM_PLACES[:4]:
            for value in LEAVES + (full_sum(1), full_sum(4), deep_sum(4), deep_sum(4, "less", 2)):
                self.holds_everywhere(place(value))
        for place in SUM_PLACES[4:]:
            for value in LEAVES + (full_sum(3), deep_sum(3, "times")):
                self.holds_everywhere(place(value))

    def test_wrong_sums_wherever_one_stands(self):
        for place in SUM_PLACES:
            for value in NEVER + (deep_sum(5), deep_sum(5, "under", 2), full_sum(5), ("cell", 6), ("cell", True),
                                  ("plus", 1), ("plus", 1, 2, 3), ["cell", 0], ["plus", 1, 2], ("over", 1, 2)):
                self.fails_everywhere(place(value))

    def test_rows_of_none_and_of_six_steps(self):
        for length in range(7):
            self.holds(is_program, (("work", 1),) * length)
        for length in range(1, 7):
            row = (("note", 1),) * length
            for wrapper in WRAPPERS:
                self.holds(is_program, wrapper(row))

    def test_rows_too_long(self):
        for length in (7, 8, 20):
            for wrapper in WRAPPERS:
                self.fails(is_program, wrapper((("work", 1),) * length))

    def test_empty_rows_stand_in_an_if_alone(self):
        row = (("work", 1),)
        for step in (("if", 1, (), ()), ("if", 0, row, ()), ("if", 0, (), row)):
            self.holds_everywhere(step)
        for step in (("again", 1, ()), ("both", (), row), ("both", row, ()), ("both", (), ())):
            self.fails_everywhere(step)

    def test_what_is_no_row_in_the_place_of_one(self):
        row = (("work", 1),)
        for thing in NEVER + (0, 1, ("work", 1), ("if", 1, (), ()), ("set", 0, 0), [("work", 1)], (["work", 1],),
                              list(row), "{ work 1 }", (row,)):
            if thing == ():
                continue
            for step in (("if", 1, thing, row), ("if", 1, row, thing), ("if", 1, thing, ()), ("if", 1, (), thing),
                         ("again", 1, thing), ("both", thing, row), ("both", row, thing)):
                self.fails_everywhere(step)

    def test_rows_six_deep_and_seven(self):
        for word in ("if", "again", "both"):
            for side in (1, 2):
                for depth in range(7):
                    self.holds(is_program, deep_rows(depth, word, side))
                for depth in range(7, 14):
                    self.fails(is_program, deep_rows(depth, word, side))

    def test_an_empty_row_lies_as_deep_as_another(self):
        for side in (1, 2):
            self.holds(is_program, deep_rows(6, "if", side, ()))
            self.fails(is_program, deep_rows(7, "if", side, ()))
        self.holds(is_program, deep_rows(5, "both", 1, (("if", 1, (), ()),)))
        self.fails(is_program, deep_rows(6, "both", 1, (("if", 1, (), ()),)))

    def test_words_mixed_by_depth(self):
        words = ("if", "both", "again", "both", "again", "if", "both")
        row = (("set", 0, full_sum(4)),)
        for depth, word in enumerate(words):
            self.holds(is_program, row)
            row = (("work", 2), around(word, row, depth % 2 + 1))
        self.fails(is_program, row)

    def test_other_words(self):
        row = (("work", 1),)
        for word in ("", "Set", "set ", "sets", "plus", "cell", "fork", "{", None, 0, 1, True, (), [], ["set"],
                     ("set",), ([],), [[]]):
            for parts in ((), (1,), (1, 1), (row,), (1, row), (row, row), (1, row, row)):
                self.fails_everywhere((word,) + parts)

    def test_words_with_the_parts_of_others(self):
        row = (("work", 1),)
        for step in (("set", row, row), ("add", 1, row), ("note", row), ("work", row), ("if", row, 1, 1),
                     ("again", row, 1), ("both", 1, row), ("both", 2, 2)):
            self.fails_everywhere(step)

    def test_parts_too_few_or_too_many(self):
        row = (("work", 1),)
        for step in (("set", 1, 1), ("add", 1, 1), ("note", 1), ("work", 1), ("if", 1, row, row), ("again", 1, row),
                     ("both", row, row)):
            self.holds_everywhere(step)
            for length in range(1, len(step)):
                self.fails_everywhere(step[:length])
            for part in (1, None, (), row, ("cell", 0), "work"):
                self.fails_everywhere(step + (part,))

    def test_what_is_no_step_in_the_place_of_one(self):
        for thing in NEVER + ((), 0, 1, "work", ["work", 1], [], ("work",), (("work", 1),), ("cell", 0),
                              ("plus", 1, 2), (1, "work")):
            self.fails_everywhere(thing)

    def test_lists_stand_nowhere(self):
        row = (("work", 1),)
        for thing in ([], [("work", 1)], [["work", 1]], list(deep_rows(3))):
            self.fails(is_program, thing)
        for step in (["set", 0, 1], ["both", row, row], ("both", list(row), row), ("both", row, list(row)),
                     ("again", 1, list(row)), ("if", 1, [], row), ("if", 1, row, []), ("note", ["cell", 1])):
            self.fails_everywhere(step)

    def test_other_things(self):
        for thing in NEVER + PLAIN_STEPS + SUM_WORDS + (0, 1, 999, ("if", 1, (), ()), "{ work 1 }"):
            if thing != ():
                self.fails(is_program, thing)

    def test_deep_things(self):
        for depth in (30, 35):
            for thing in (nested(depth, list), nested(depth, tuple)) + nested_with_words(depth):
                self.fails(is_program, thing)
                self.fails_everywhere(thing)
                self.fails_everywhere(("note", thing))
                self.fails_everywhere((thing, 1))
                self.fails_everywhere(("again", 1, thing))
        self.fails(is_program, doubled_rows(15))
        self.fails(is_program, deep_rows(30))

    def test_programs_of_all_sorts(self):
        for program in programs(300):
            self.holds(is_program, program)


class Unchanged(Things):
    def test_what_is_handed_in_stays_and_the_same_is_told_again(self):
        made = ([["set", 0, 1]], (["set", 0, ["plus", 1, [2]]],), [0, 1], ["plus", 1, 2], ("both", [()], [[]]))
        for thing in made + tuple(programs(5)):
            kept = copy.deepcopy(thing)
            for ask in (is_sum, is_program, are_cells):
                first = ask(thing)
                self.assertIs(ask(thing), first)
                self.assertEqual(thing, kept)


if __name__ == "__main__":
    unittest.main()
