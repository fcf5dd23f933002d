import unittest

from joincrew.alone import measures
from model import Alone
from running import programs_with_cells
from samples import deep_rows, full_sum

UNIT = (("work", 1),)

BY_HAND = (
    ((), (0, 0, 0)),
    # A unit each, but for work, which has as many as it says.
    ((("set", 0, 1),), (1, 1, 0)),
    ((("add", 0, 1),), (1, 1, 0)),
    ((("note", 1),), (1, 1, 0)),
    ((("note", full_sum(4)),), (1, 1, 0)),
    ((("set", 5, 1),), (1, 1, 0)),
    ((("work", 1),), (1, 1, 0)),
    ((("work", 9),), (9, 9, 0)),
    ((("set", 0, 1), ("work", 4), ("note", 1)), (6, 6, 0)),
    # The look at an if is a unit, whichever row is done, and if it is empty.
    ((("if", 1, (), ()),), (1, 1, 0)),
    ((("if", 1, (("work", 3),), (("work", 5),)),), (4, 4, 0)),
    ((("if", 0, (("work", 3),), (("work", 5),)),), (6, 6, 0)),
    ((("if", 0, (("work", 3),), ()), ("work", 2)), (3, 3, 0)),
    # An again has no unit of its own, and counts each time.
    ((("again", 1, UNIT),), (1, 1, 0)),
    ((("again", 4, (("work", 2), ("note", 1))),), (12, 12, 0)),
    ((("again", 3, (("again", 2, (("work", 5),)), ("if", 0, (), ()))),), (33, 33, 0)),
    # Rows of an again that do otherwise each time: 1 and 2, 1 and 2, 1 and 4.
    ((("again", 3, (("if", ("under", ("cell", 0), 2), (("add", 0, 1), ("work", 1)), (("work", 4),)),)),), (11, 11, 0)),
    # The fork is a unit; the deeper row counts for the depth.
    ((("both", UNIT, UNIT),), (3, 2, 1)),
    ((("both", (("work", 5),), (("work", 2),)),), (8, 6, 1)),
    ((("both", (("work", 2),), (("work", 5),)),), (8, 6, 1)),
    ((("work", 3), ("both", (("work", 2),), (("work", 5),)), ("work", 4)), (15, 13, 1)),
    # Forks one behind the other.
    ((("both", (("work", 5),), (("work", 2),)), ("both", (("work", 1),), (("work", 3),))), (13, 10, 1)),
    ((("both", UNIT, UNIT),) * 6, (18, 12, 1)),
    ((("again", 4, (("both", UNIT, (("work", 2),)),)),), (16, 12, 1)),
    # Forks in one another.
    ((("both", (("both", UNIT, UNIT),), UNIT),), (5, 3, 2)),
    ((("both", UNIT, (("both", UNIT, UNIT),)),), (5, 3, 2)),
    ((("both", (("both", UNIT, UNIT),), (("both", UNIT, UNIT),)),), (7, 3, 2)),
    ((("both", (("both", UNIT, UNIT), ("both", UNIT, UNIT)), (("work", 9),)),), (16, 10, 2)),
    # The row with more work is not the deeper one.
    ((("both", (("both", (("work", 4),), (("work", 4),)),), (("work", 6),)),), (16, 7, 2)),
    ((("both", (("if", 1, (("both", UNIT, UNIT),), ()),), UNIT), ("both", UNIT, UNIT)), (9, 6, 2)),
    ((("both", UNIT, UNIT), ("both", UNIT, (("again", 2, (("both", (("both", UNIT, UNIT),), UNIT),)),))), (15, 9, 3)),
    # A fork that is not done does not count.
    ((("if", 0, (("both", UNIT, UNIT),), UNIT),), (2, 2, 0)),
    ((("if", ("cell", 1), (("both", UNIT, (("both", UNIT, UNIT),)),), (("both", UNIT, UNIT),)),), (4, 3, 1)),
)


def all_forks(depth):
    return UNIT if depth == 0 else (("both", all_forks(depth - 1), all_forks(depth - 1)),)


class Measures(unittest.TestCase):
    def test_by_hand(self):
        for program, told in BY_HAND:
            self.assertEqual(measures(program, (0, 0)), told, program)

    def test_three_whole_numbers_in_a_tuple(self):
        for program, told in BY_HAND:
            told = measures(program, (0, 0))
            self.assertEqual([type(told)] + [type(number) for number in told], [tuple, int, int, int])

    def test_the_cells_tell_which_rows_are_done(self):
        program = (("if", ("cell", 0), (("both", UNIT, UNIT),), (("work", 7),)),)
        self.assertEqual(measures(program, (1,)), (4, 3, 1))
        self.assertEqual(measures(program, (0,)), (8, 8, 0))

    def test_done_alone_one_is_ahead_of_other(self):
        row = (("if", ("cell", 0), (("work", 5),), ()),)
        self.assertEqual(measures((("both", (("set", 0, 1),), row),), (0,)), (8, 7, 1))
        self.assertEqual(measures((("both", row, (("set", 0, 1),)),), (0,)), (3, 2, 1))

    def test_forks_as_deep_as_they_may_be(self):
        for depth in range(7):
            for side in (1, 2):
                self.assertEqual(measures(deep_rows(depth, "both", side), (0,)), (2 * depth + 1, depth + 1, depth))
            self.assertEqual(measures(all_forks(depth), (0,)), (2 ** (depth + 1) - 1, depth + 1, depth))

    def test_the_model_tells_the_same(self):
        for parted in (False, True):
            for program, cells in programs_with_cells(300, parted, 6):
                self.assertEqual(measures(program, cells), Alone(program, cells).measures)

    def test_what_is_somewhat_beyond(self):
        self.assertEqual(measures((("work", 0), ("work", 20), ("again", 9, (("note", 1),) * 9)), ()), (101, 101, 0))
        self.assertEqual(measures((("both", (), ()), ("both", (), UNIT), ("again", 2, ())), (0,)), (3, 3, 1))


if __name__ == "__main__":
    unittest.main()
