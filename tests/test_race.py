import itertools
import unittest

from joincrew.alone import race, touched
from model import are_a_race
from running import programs_with_cells
from samples import both

SET, ADD, READ = ("set", 0, 1), ("add", 0, 1), ("note", ("cell", 0))
ASK = ("if", ("cell", 0), (), ())
UNIT = (("work", 1),)


class Race(unittest.TestCase):
    def none(self, *program, cells=(0, 0)):
        self.assertIsNone(race(program, cells), program)

    def pair(self, program, first, second, cells=(0, 0)):
        """For programs in which no other two touches race."""
        self.assertEqual(race(program, cells), (first, second), program)

    def some(self, *program, cells=(0, 0)):
        told = race(program, cells)
        self.assertIsNotNone(told, program)
        self.assertEqual((type(told), len(told)), (tuple, 2))
        touches = touched(program, cells)
        self.assertLess(touches.index(told[0]), touches.index(told[1]))
        self.assertTrue(are_a_race(told[0], told[1]), told)


class None_(Race):
    def test_programs_without_forks(self):
        self.none()
        self.none(SET, ADD, READ, SET, ADD, READ)
        self.none(("again", 4, (SET, ASK, READ, ADD)))

    def test_rows_that_only_read_a_common_cell(self):
        self.none(both((READ,), (READ, ASK)))
        self.none(both((READ, ("set", 1, ("cell", 0))), (("set", 2, ("plus", ("cell", 0), ("cell", 3))),)))

    def test_rows_that_only_add_to_a_common_cell(self):
        self.none(both((ADD,), (ADD, ADD)))
        self.none(both((("add", 0, ("cell", 1)),), (("add", 0, ("times", ("cell", 1), 2)),)))

    def test_rows_with_cells_of_their_own(self):
        self.none(both((SET, READ, ADD), (("set", 1, 1), ("add", 1, ("cell", 1)))))

    def test_a_row_and_one_that_it_forked(self):
        for one, other in itertools.product((SET, ADD, READ, ASK), repeat=2):
            self.none(one, both((other,), UNIT), one)
            self.none(one, both(UNIT, (other,)), one)
            self.none(both((one, both((other,), UNIT), one), UNIT), one)

    def test_rows_of_forks_one_behind_the_other(self):
        for one, other in itertools.product((SET, ADD, READ, ASK), repeat=2):
            self.none(both((one,), UNIT), both((other,), UNIT))
            self.none(both((one,), UNIT), both(UNIT, (other,)))
            self.none(both(UNIT, (one,)), both((other,), UNIT))
            self.none(("again", 3, (both((one,), UNIT), both(UNIT, (other,)))))
            self.none(both((both((one,), UNIT), both(UNIT, (other,))), UNIT), both((one,), UNIT))

    def test_a_row_that_touches_the_same_cell_each_round(self):
        self.none(("again", 4, (both((SET, ADD, READ), UNIT),)))

    def test_rows_that_are_not_done(self):
        self.none(both((SET,), (("if", 0, (SET, ADD, READ), ()),)))
        self.none(both((SET,), (("if", ("cell", 1), (READ,), (("note", 1),)),)), cells=(5, 0))


class Some(Race):
    def test_each_pair_of_ways(self):
        ways = {"set": SET, "add": ADD, "read": READ}
        for one, other in itertools.product(ways, repeat=2):
            program = (both((ways[one],), (ways[other],)),)
            if one == other != "set":
                self.none(*program)
            else:
                self.pair(program, ((0, 0), 0, one, 0), ((0, 1), 0, other, 0))

    def test_a_read_by_an_if_or_by_a_sum_that_is_put(self):
        for step in (ASK, ("set", 1, ("cell", 0)), ("add", 1, ("less", 3, ("cell", 0)))):
            for writer in (SET, ADD):
                self.pair((both((writer,), (step,)),), ((0, 0), 0, writer[0], 0), ((0, 1), 0, "read", 0))
                self.pair((both((step,), (writer,)),), ((0, 0), 0, "read", 0), ((0, 1), 0, writer[0], 0))

    def test_an_add_of_its_own_cell_reads_it_too(self):
        self.some(both((("add", 0, ("cell", 0)),), (ADD,)))
        self.some(both((ADD,), (("add", 0, ("cell", 0)),)))

    def test_each_cell(self):
        for k in range(6):
            for cells in ((0,), (0,) * 6):
                self.pair((both((("work", 2), ("set", k, 1)), (("work", 1), ("add", k, 1))),),
                          ((0, 0), 2, "set", k), ((0, 1), 1, "add", k), cells)

    def test_neighbour_cells_do_not_race(self):
        for k in range(5):
            self.none(both((("set", k, 1),), (("set", k + 1, ("cell", k + 1)),)), cells=(0,) * 6)

    def test_at_every_depth(self):
        one, other = (SET,), (READ,)
        for depth in range(6):
            self.some(both(one, (READ,)))
            self.some(both((READ,), one))
            self.some(both(one, other))
            one = (both(one, UNIT),) if depth % 2 else (both(UNIT, one),)
            other = (("work", 1), both(UNIT, other))

    def test_below_a_fork_on_one_side(self):
        for around in (lambda step: both((step,), UNIT), lambda step: both(UNIT, (step,))):
            self.some(around(both((SET,), (READ,))))
            self.some(around(both((around(SET),), (around(READ),))))
            self.some(READ, around(around(both((READ,), (SET,)))), READ)

    def test_behind_touches_that_do_not_race(self):
        self.some(SET, both((READ, ADD), (READ,)))
        self.some(both((ADD,), (ADD,)), both((ADD, READ), (ADD,)))
        self.some(both((READ,), (READ,)), SET, both((READ,), (both((READ,), (ADD,)),)))
        self.some(both((("set", 1, 1), READ), (("set", 2, 1), ("set", 3, 1), SET)))

    def test_in_if_and_again(self):
        self.some(("if", 1, (both((SET,), (SET,)),), ()))
        self.some(("again", 2, (both((("if", ("cell", 1), (SET,), ()),), (READ,)), ("set", 1, 1))))
        self.some(both((("again", 2, (("work", 1), ADD)),), (("if", 0, (), (("again", 3, (READ,)),)),)))

    def test_the_names_tell_the_round(self):
        program = (("again", 3, (both((("if", ("under", ("cell", 1), 2), (), (SET,)),), (READ,)), ("add", 1, 1))),)
        self.pair(program, ((2, 0), 1, "set", 0), ((2, 1), 0, "read", 0))

    def test_cells_that_are_not_there(self):
        self.some(both((("set", 5, 1),), (("note", ("cell", 5)),)), cells=(0,))
        self.none(both((("add", 5, 1),), (("add", 5, 2),)), cells=(0,))

    def test_it_is_told_of_what_is_done_alone(self):
        program = (both((("if", ("cell", 0), (("set", 1, 1),), ()),), (("set", 1, 2),)),)
        self.assertIsNone(race(program, (0,)))
        self.assertEqual(race(program, (1,)), (((0, 0), 1, "set", 1), ((0, 1), 0, "set", 1)))


class Model(Race):
    def test_a_pair_is_told_just_if_some_touches_race(self):
        found = {True: 0, False: 0}
        for program, cells in programs_with_cells(700, False, 11):
            touches = touched(program, cells)
            if len(touches) > 150:
                continue
            races = any(are_a_race(one, other) for one, other in itertools.combinations(touches, 2))
            found[races] += 1
            if races:
                self.some(*program, cells=cells)
            else:
                self.none(*program, cells=cells)
        self.assertGreater(min(found.values()), 100)

    def test_parted_programs_have_none(self):
        for program, cells in programs_with_cells(300, True, 12):
            self.none(*program, cells=cells)


if __name__ == "__main__":
    unittest.main()
