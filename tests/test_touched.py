import unittest

from joincrew.alone import touched
from model import Alone
from running import programs_with_cells

UNIT = (("work", 1),)


class Touched(unittest.TestCase):
    def touches(self, program, told, cells=(0, 0)):
        self.assertEqual(touched(program, cells), told)

    def test_set_and_add_and_note(self):
        self.touches((("set", 1, 5),), (((), 0, "set", 1),))
        self.touches((("add", 1, 5),), (((), 0, "add", 1),))
        self.touches((("note", 5),), ())
        self.touches((("note", ("cell", 1)),), (((), 0, "read", 1),))
        self.touches((("set", 1, ("cell", 0)),), (((), 0, "read", 0), ((), 0, "set", 1)))
        self.touches((("add", 0, ("cell", 1)),), (((), 0, "read", 1), ((), 0, "add", 0)))

    def test_a_cell_is_read_ahead_of_being_set_in_the_same_unit(self):
        self.touches((("set", 0, ("cell", 0)),), (((), 0, "read", 0), ((), 0, "set", 0)))
        self.touches((("add", 1, ("plus", ("cell", 1), 1)),), (((), 0, "read", 1), ((), 0, "add", 1)))

    def test_reads_are_told_rising_and_each_once(self):
        value = ("plus", ("times", ("cell", 4), ("cell", 1)), ("less", ("cell", 4), ("under", ("cell", 0), ("cell", 1))))
        reads = (((), 0, "read", 0), ((), 0, "read", 1), ((), 0, "read", 4))
        self.touches((("note", value),), reads)
        self.touches((("set", 0, value),), reads + (((), 0, "set", 0),))
        self.touches((("add", 5, value),), reads + (((), 0, "add", 5),))
        self.touches((("if", value, (), ()),), reads)

    def test_all_cells_of_a_sum_are_asked_whatever_comes_of_it(self):
        for word in ("times", "under", "plus", "less"):
            self.touches((("note", (word, ("cell", 1), ("cell", 0))),), (((), 0, "read", 0), ((), 0, "read", 1)))
            self.touches((("note", (word, 0, ("cell", 3))),), (((), 0, "read", 3),))

    def test_cells_that_are_not_there_are_told_too(self):
        self.touches((("set", 5, ("cell", 4)), ("add", 3, 1), ("if", ("cell", 2), (), ())),
                     (((), 0, "read", 4), ((), 0, "set", 5), ((), 1, "add", 3), ((), 2, "read", 2)), (7,))

    def test_a_unit_that_touches_nothing_is_a_unit(self):
        self.touches((("work", 4), ("set", 0, 1), ("note", 1), ("add", 0, 1)), (((), 4, "set", 0), ((), 6, "add", 0)))
        self.touches((("work", 9),), ())
        self.touches((), ())

    def test_the_look_at_an_if_and_its_rows(self):
        program = (("if", ("cell", 0), (("set", 1, 1),), (("set", 1, 2), ("note", ("cell", 1)))), ("add", 0, 1))
        self.touches(program, (((), 0, "read", 0), ((), 1, "set", 1), ((), 2, "read", 1), ((), 3, "add", 0)), (0, 0))
        self.touches(program, (((), 0, "read", 0), ((), 1, "set", 1), ((), 2, "add", 0)), (1, 0))
        self.touches((("if", 1, (), ()), ("add", 0, 1)), (((), 1, "add", 0),))

    def test_again_has_no_unit_of_its_own(self):
        self.touches((("again", 3, (("work", 1), ("set", 0, 1))), ("set", 1, 1)),
                     (((), 1, "set", 0), ((), 3, "set", 0), ((), 5, "set", 0), ((), 6, "set", 1)))

    def test_rows_of_a_fork_have_units_of_their_own(self):
        self.touches(
            (("set", 0, 1), ("both", (("work", 1), ("set", 1, 1)), (("set", 2, 1), ("add", 3, 1))), ("set", 4, 1)),
            (((), 0, "set", 0), ((0, 0), 1, "set", 1), ((0, 1), 0, "set", 2), ((0, 1), 1, "add", 3),
             ((), 2, "set", 4)))

    def test_forks_one_behind_the_other(self):
        fork = ("both", (("set", 0, 1),), (("set", 1, 1),))
        self.touches((fork, ("set", 2, 1), fork, fork), (
            ((0, 0), 0, "set", 0), ((0, 1), 0, "set", 1), ((), 1, "set", 2), ((1, 0), 0, "set", 0),
            ((1, 1), 0, "set", 1), ((2, 0), 0, "set", 0), ((2, 1), 0, "set", 1)))

    def test_forks_in_one_another(self):
        fork = ("both", (("set", 0, 1),), (("set", 1, 1),))
        self.touches((("both", (fork, ("set", 2, 1), fork), (("work", 2), fork, ("set", 3, 1))), fork), (
            ((0, 0, 0, 0), 0, "set", 0), ((0, 0, 0, 1), 0, "set", 1), ((0, 0), 1, "set", 2),
            ((0, 0, 1, 0), 0, "set", 0), ((0, 0, 1, 1), 0, "set", 1),
            ((0, 1, 0, 0), 0, "set", 0), ((0, 1, 0, 1), 0, "set", 1), ((0, 1), 3, "set", 3),
            ((1, 0), 0, "set", 0), ((1, 1), 0, "set", 1)))

    def test_forks_in_if_and_again_are_those_of_the_row(self):
        fork = ("both", (("set", 0, 1),), (("set", 1, 1),))
        self.touches((("if", ("cell", 0), (), (fork,)), fork), (
            ((), 0, "read", 0), ((0, 0), 0, "set", 0), ((0, 1), 0, "set", 1), ((1, 0), 0, "set", 0),
            ((1, 1), 0, "set", 1)))
        self.touches((("again", 2, (fork, ("note", ("cell", 5)))), fork, ("add", 2, 1)), (
            ((0, 0), 0, "set", 0), ((0, 1), 0, "set", 1), ((), 1, "read", 5),
            ((1, 0), 0, "set", 0), ((1, 1), 0, "set", 1), ((), 3, "read", 5),
            ((2, 0), 0, "set", 0), ((2, 1), 0, "set", 1), ((), 5, "add", 2)))

    def test_an_if_that_is_not_done_has_no_forks(self):
        fork = ("both", (("set", 0, 1),), (("set", 1, 1),))
        self.touches((("if", 0, (fork, fork), ()), fork), (((0, 0), 0, "set", 0), ((0, 1), 0, "set", 1)))

    def test_a_row_that_does_otherwise_in_the_second_round(self):
        row = (("if", ("cell", 0), (("both", (("add", 1, 1),), UNIT),), (("set", 0, 1),)),)
        self.touches((("both", (("again", 2, row),), UNIT),), (
            ((0, 0), 0, "read", 0), ((0, 0), 1, "set", 0), ((0, 0), 2, "read", 0), ((0, 0, 0, 0), 0, "add", 1)))

    def test_one_is_done_ahead_of_other(self):
        row = (("if", ("cell", 0), (("set", 1, 1),), ()),)
        self.touches((("both", (("set", 0, 1),), row),),
                     (((0, 0), 0, "set", 0), ((0, 1), 0, "read", 0), ((0, 1), 1, "set", 1)))
        self.touches((("both", row, (("set", 0, 1),)),), (((0, 0), 0, "read", 0), ((0, 1), 0, "set", 0)))

    def test_all_is_tuples_of_texts_and_numbers(self):
        for program, cells in programs_with_cells(100, False, 8):
            told = touched(program, cells)
            self.assertIs(type(told), tuple)
            for touch in told:
                self.assertEqual([type(part) for part in touch], [tuple, int, str, int])
                self.assertIs(type(touch), tuple)
                self.assertIn(touch[2], ("read", "set", "add"))
                self.assertEqual([type(part) for part in touch[0]], [int] * len(touch[0]))

    def test_the_model_tells_the_same(self):
        for parted in (False, True):
            for program, cells in programs_with_cells(300, parted, 9):
                self.assertEqual(touched(program, cells), tuple(Alone(program, cells).touched))

    def test_what_is_somewhat_beyond(self):
        self.touches((("work", 0), ("both", (), (("set", 9, ("cell", 8)),)), ("set", 0, 1)),
                     (((0, 1), 0, "read", 8), ((0, 1), 0, "set", 9), ((), 1, "set", 0)))


if __name__ == "__main__":
    unittest.main()
