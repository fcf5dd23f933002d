import itertools
import unittest

from joincrew.alone import alone, measures, race, touched
from model import Alone
from running import programs_with_cells
from samples import LEAVES, SUM_WORDS, full_sum, programs

NUMBERS = (0, 1, 2, 3, 499, 500, 501, 998, 999)


class Doing(unittest.TestCase):
    def ends(self, program, cells, cells_behind, notes):
        self.assertEqual(alone(program, cells), (cells_behind, notes))

    def comes(self, value, number, cells=(0,)):
        told = alone((("note", value),), cells)
        self.assertEqual(told, (cells, (number,)))
        # A truth equals a number, but is none.
        self.assertIs(type(told[1][0]), int)


class Sums(Doing):
    def test_numbers(self):
        for number in NUMBERS:
            self.comes(number, number)

    def test_cells_that_are_there(self):
        cells = (5, 0, 999, 7, 1, 100)
        for length in range(1, 7):
            for k in range(length):
                self.comes(("cell", k), cells[k], cells[:length])

    def test_cells_that_are_not_there_are_0(self):
        cells = (5, 6, 999, 7, 1, 100)
        for length in range(1, 6):
            for k in range(length, 6):
                self.comes(("cell", k), 0, cells[:length])
                self.comes(("plus", ("cell", k), 3), 3, cells[:length])
                self.comes(("less", ("cell", k), 3), 997, cells[:length])

    def test_each_word_by_hand(self):
        for value, number in (
                (("plus", 2, 3), 5), (("plus", 999, 1), 0), (("plus", 999, 999), 998), (("plus", 500, 499), 999),
                (("less", 5, 3), 2), (("less", 3, 5), 998), (("less", 0, 1), 999), (("less", 0, 999), 1),
                (("less", 7, 7), 0), (("times", 3, 4), 12), (("times", 999, 999), 1), (("times", 500, 2), 0),
                (("times", 40, 25), 0), (("times", 33, 31), 23), (("times", 0, 999), 0),
                (("under", 1, 2), 1), (("under", 2, 2), 0), (("under", 2, 1), 0), (("under", 0, 999), 1)):
            self.comes(value, number)

    def test_each_word_of_many_numbers(self):
        for one, other in itertools.product(NUMBERS, NUMBERS):
            self.comes(("plus", one, other), (one + other) % 1000)
            self.comes(("less", one, other), one - other if one >= other else one - other + 1000)
            self.comes(("times", one, other), one * other % 1000)
            self.comes(("under", one, other), 1 if one < other else 0)

    def test_words_within_words(self):
        self.comes(("less", ("less", 0, 1), 999), 0)
        self.comes(("under", ("less", 0, 1), 5), 0)
        self.comes(("under", 5, ("less", 0, 1)), 1)
        self.comes(("plus", ("under", 1, 2), ("under", 2, 1)), 1)
        self.comes(("times", ("plus", 600, 600), ("less", 10, ("cell", 1))), 400, (9, 8))
        self.comes(("less", ("less", 10, 3), ("less", 3, 10)), 14)

    def test_each_number_is_taken_by_1000_at_once(self):
        self.comes(("under", ("plus", 999, 2), 2), 1)
        self.comes(("under", ("times", 500, 4), 1), 1)
        self.comes(("less", 1, ("plus", 999, 3)), 999)

    def test_sums_four_words_deep(self):
        # 7 under 7 is 0, and so are times, less and plus of noughts.
        self.comes(full_sum(4), 0)
        self.comes(("plus", 1, ("plus", 2, ("plus", 3, ("plus", 4, ("cell", 0))))), 15, (5,))

    def test_sums_of_all_leaves(self):
        cells = (3, 9, 9, 9, 9, 998)
        worth = {("cell", 0): 3, ("cell", 5): 998, 0: 0, 1: 1, 999: 999}
        for word in SUM_WORDS:
            for one, other in itertools.product(LEAVES, LEAVES):
                number = alone((("note", (word, worth[one], worth[other])),), cells)[1][0]
                self.comes((word, one, other), number, cells)


class PlainSteps(Doing):
    def test_set(self):
        self.ends((("set", 0, 7),), (1, 2), (7, 2), ())
        self.ends((("set", 1, 7),), (1, 2), (1, 7), ())
        self.ends((("set", 1, ("plus", ("cell", 1), ("cell", 0))),), (1, 2), (1, 3), ())
        self.ends((("set", 0, ("cell", 1)), ("set", 1, ("cell", 0))), (1, 2), (2, 2), ())
        self.ends((("set", 5, 999),), (0,) * 6, (0,) * 5 + (999,), ())

    def test_add(self):
        self.ends((("add", 0, 7),), (1, 2), (8, 2), ())
        self.ends((("add", 1, ("cell", 1)),), (1, 2), (1, 4), ())
        self.ends((("add", 0, 1),), (999,), (0,), ())
        self.ends((("add", 0, 999),), (999,), (998,), ())
        self.ends((("add", 0, ("less", 0, 1)),), (5,), (4,), ())
        self.ends((("add", 0, 0),), (5,), (5,), ())

    def test_note(self):
        self.ends((("note", 7),), (1, 2), (1, 2), (7,))
        self.ends((("note", ("cell", 1)), ("note", 0), ("note", ("cell", 0))), (1, 2), (1, 2), (2, 0, 1))
        self.ends((("note", 4), ("note", 4)), (0,), (0,), (4, 4))

    def test_work(self):
        for n in range(1, 10):
            self.ends((("work", n),), (1, 2), (1, 2), ())

    def test_one_behind_the_other(self):
        self.ends((("note", ("cell", 0)), ("set", 0, 5), ("note", ("cell", 0)), ("add", 0, ("cell", 0)),
                   ("note", ("cell", 0)), ("set", 0, 1)), (2,), (1,), (2, 5, 10))

    def test_what_is_put_into_a_cell_that_is_not_there_is_lost(self):
        for length in range(1, 6):
            cells = (7,) * length
            for k in range(length, 6):
                for word in ("set", "add"):
                    self.ends(((word, k, 3), ("note", ("cell", k)), (word, k, ("cell", 0)), ("note", ("cell", k))),
                              cells, cells, (0, 0))

    def test_the_program_without_steps(self):
        for cells in ((0,), (1, 2, 3), (999,) * 6):
            self.ends((), cells, cells, ())


class StepsWithRows(Doing):
    def test_an_if_does_one_row(self):
        one, other = (("note", 1), ("set", 0, 8)), (("note", 2), ("set", 1, 9))
        for value in (1, 2, 999, ("cell", 0), ("under", 1, 2), ("less", 0, 1)):
            self.ends((("if", value, one, other), ("note", 3)), (5, 0), (8, 0), (1, 3))
        for value in (0, ("cell", 1), ("cell", 4), ("under", 2, 2), ("less", 5, 5), ("times", 500, 2)):
            self.ends((("if", value, one, other), ("note", 3)), (5, 0), (5, 9), (2, 3))

    def test_an_if_with_an_empty_row(self):
        row = (("note", 1),)
        for value, one, other, notes in ((1, row, (), (1, 3)), (0, row, (), (3,)), (1, (), row, (3,)),
                                         (0, (), row, (1, 3)), (0, (), (), (3,)), (1, (), (), (3,))):
            self.ends((("if", value, one, other), ("note", 3)), (5,), (5,), notes)
            self.ends((("if", value, one, other),), (5,), (5,), notes[:-1])

    def test_an_if_looks_but_once(self):
        self.ends((("if", ("cell", 0), (("set", 0, 0), ("note", 1)), (("note", 2),)),), (1,), (0,), (1,))

    def test_again(self):
        for n in range(1, 5):
            self.ends((("again", n, (("add", 0, 2), ("note", ("cell", 0)))), ("note", 99)), (0,), (2 * n,),
                      tuple(range(2, 2 * n + 1, 2)) + (99,))

    def test_again_in_again(self):
        self.ends((("again", 3, (("again", 2, (("add", 0, 1),)), ("note", ("cell", 0)))),), (0,), (6,), (2, 4, 6))
        self.ends((("again", 4, (("again", 4, (("again", 4, (("add", 0, 1),)),)),)),), (0,), (64,), ())

    def test_again_with_a_row_that_changes_the_cell_which_it_asks(self):
        row = (("if", ("under", ("cell", 0), 2), (("add", 0, 1), ("note", 1)), (("set", 0, 0), ("note", 2))),)
        self.ends((("again", 4, row),), (0,), (1,), (1, 1, 2, 1))
        self.ends((("again", 3, (("set", 0, ("times", ("cell", 0), 3)),)),), (2,), (54,), ())

    def test_both_does_all_of_one_then_all_of_other(self):
        self.ends((("both", (("note", 1), ("set", 0, 5), ("note", 2)), (("note", ("cell", 0)), ("set", 0, 6))),
                   ("note", ("cell", 0))), (0,), (6,), (1, 2, 5, 6))

    def test_both_in_both(self):
        inner = ("both", (("note", 1),), (("note", 2),))
        self.ends((("both", (inner, ("note", 3)), (("note", 4), inner)), ("note", 5)), (0,), (0,),
                  (1, 2, 3, 4, 1, 2, 5))

    def test_both_in_if_and_again(self):
        inner = ("both", (("add", 0, 1), ("note", ("cell", 0))), (("add", 0, 10), ("note", ("cell", 0))))
        self.ends((("again", 2, (("if", 1, (inner,), ()),)),), (0,), (22,), (1, 11, 12, 22))


class Kinds(unittest.TestCase):
    def test_cells_and_notes_are_tuples_of_whole_numbers(self):
        for program, cells in programs_with_cells(200, False, 3):
            told = alone(program, cells)
            self.assertEqual([type(told), type(told[0]), type(told[1])], [tuple] * 3)
            self.assertEqual((len(told), len(told[0])), (2, len(cells)))
            for number in told[0] + told[1]:
                self.assertIs(type(number), int)
                self.assertTrue(0 <= number <= 999)

    def test_asked_the_same_again_the_same_is_told(self):
        for program, cells in programs_with_cells(100, False, 4):
            kept = repr((program, cells))
            for ask in (alone, measures, touched, race):
                self.assertEqual(ask(program, cells), ask(program, cells))
            self.assertEqual(repr((program, cells)), kept)


class Model(unittest.TestCase):
    def test_programs_of_all_sorts(self):
        some = [(program, (1, 0, 999)) for program in programs(100, 7) if Alone(program, (1, 0, 999)).measures[0] < 9999]
        for program, cells in some + programs_with_cells(400, False, 5):
            model = Alone(program, cells)
            self.assertEqual(alone(program, cells), (tuple(model.cells), tuple(model.notes)))


class Beyond(Doing):
    def test_longer_rows_and_ifs_in_the_place_of_boths(self):
        row = tuple(("note", number) for number in range(30))
        self.ends(row, (0,), (0,), tuple(range(30)))
        self.ends((("if", 1, row, ()), ("note", 99)), (0,), (0,), tuple(range(30)) + (99,))

    def test_more_cells_and_other_cells(self):
        cells = (0, 1, 2, 3, 4, 5, 6, 7)
        self.ends((("note", ("cell", 7)), ("add", 6, 1), ("note", ("cell", 8)), ("set", 8, 1)), cells,
                  (0, 1, 2, 3, 4, 5, 7, 7), (7, 0))
        self.ends((("set", -1, 5), ("add", -1, 5), ("note", ("cell", -1))), (1, 2), (1, 2), (0,))
        self.ends((("set", 0, 1), ("note", ("cell", 0))), (), (), (0,))

    def test_other_counts(self):
        self.ends((("work", 0), ("work", 30), ("again", 0, (("note", 1),)), ("again", 7, (("note", 2),))), (0,), (0,),
                  (2,) * 7)
        self.ends((("again", 3, ()), ("both", (), (("note", 1),)), ("both", (("note", 2),), ()), ("both", (), ())),
                  (0,), (0,), (1, 2))

    def test_deeper_rows_and_sums(self):
        row, value = (("note", 1),), 1
        for turn in range(20):
            row = (("both", row, (("work", 1),)),)
            value = ("plus", value, 1)
        self.ends(row + (("note", value),), (0,), (0,), (1, 21))


if __name__ == "__main__":
    unittest.main()
