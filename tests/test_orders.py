import random
import unittest

import model
from joincrew.alone import alone
from joincrew.crews import Crew
from joincrew.orders import done_in
from running import any_turns, programs_with_cells, racing_programs, small_programs
from samples import both, note, work

TOP, ONE, OTHER = (), (0, 0), (0, 1)
READ = ("cell", 0)


class Orders(unittest.TestCase):
    def comes(self, program, order, cells_behind, notes=(), cells=(0,)):
        self.assertEqual(done_in(program, cells, order), (cells_behind, notes), order)

    def none(self, program, order, cells=(0,)):
        self.assertIsNone(done_in(program, cells, order), order)


class ByHand(Orders):
    def test_the_program_without_steps(self):
        self.comes((), (), (4, 5), (), (4, 5))
        for order in (((),), ((), ()), ((0, 0),), ((0,),), ((-1,),)):
            self.none((), order)

    def test_one_row(self):
        self.comes((("set", 0, 7),), (TOP,), (7,))
        self.comes((note(1), note(2), ("add", 0, 3)), (TOP,) * 3, (3,), (1, 2))
        self.comes((work(9),), (TOP,) * 9, (0,))
        self.comes((("if", READ, (note(1), note(2)), ()),), (TOP,), (0,))
        self.comes((("if", READ, (note(1), note(2)), ()),), (TOP,) * 3, (8,), (1, 2), (8,))
        self.comes((("again", 3, (note(READ), ("add", 0, 1))), note(READ)), (TOP,) * 7, (3,), (0, 1, 2, 3))

    def test_one_row_behind_the_other(self):
        program = (both((("set", 0, 1), note(READ)), (("add", 0, 5), note(READ))), note(READ))
        self.comes(program, (TOP, ONE, ONE, OTHER, OTHER, TOP), (6,), (1, 6, 6))
        self.comes(program, (TOP, OTHER, OTHER, ONE, ONE, TOP), (1,), (1, 5, 1))

    def test_woven(self):
        program = (both((("set", 0, 1), note(READ)), (("add", 0, 5), note(READ))), note(READ))
        self.comes(program, (TOP, ONE, OTHER, ONE, OTHER, TOP), (6,), (6, 6, 6))
        self.comes(program, (TOP, ONE, OTHER, OTHER, ONE, TOP), (6,), (6, 6, 6))
        self.comes(program, (TOP, OTHER, ONE, OTHER, ONE, TOP), (1,), (1, 1, 1))
        self.comes(program, (TOP, OTHER, ONE, ONE, OTHER, TOP), (1,), (1, 1, 1))

    def test_work_may_be_parted_by_others(self):
        program = (both((work(2), ("set", 0, 1)), (work(1), ("set", 0, 2))),)
        self.comes(program, (TOP, ONE, OTHER, ONE, OTHER, ONE), (1,))
        self.comes(program, (TOP, ONE, OTHER, ONE, ONE, OTHER), (2,))

    def test_an_if_looks_when_its_unit_is_done(self):
        program = (both((("if", READ, (note(1), note(2)), (note(3),)),), (("set", 0, 9),)),)
        self.comes(program, (TOP, ONE, OTHER, ONE), (9,), (3,))
        self.comes(program, (TOP, ONE, ONE, OTHER), (9,), (3,))
        self.comes(program, (TOP, OTHER, ONE, ONE, ONE), (9,), (1, 2))
        self.none(program, (TOP, OTHER, ONE, ONE))
        self.none(program, (TOP, ONE, OTHER, ONE, ONE))

    def test_a_row_of_an_if_and_of_an_again_belongs_to_the_row_in_which_it_stands(self):
        program = (("if", 1, (both((note(1),), (note(2),)),), ()), ("again", 2, (both((note(3),), (note(4),)),)))
        order = (TOP, TOP, (0, 1), (0, 0), TOP, (1, 0), (1, 1), TOP, (2, 1), (2, 0))
        self.comes(program, order, (0,), (1, 2, 3, 4, 3, 4))

    def test_forks_in_forks(self):
        one = (note(1), both((note(2),), (note(3),)), both((note(4),), (note(5),)))
        program = (both(one, (note(6), both((note(7),), (note(8),)))),)
        order = (TOP, OTHER, OTHER, (0, 1, 0, 1), ONE, ONE, (0, 0, 0, 1), (0, 1, 0, 0), (0, 0, 0, 0), ONE, (0, 0, 1, 0),
                 (0, 0, 1, 1))
        self.comes(program, order, (0,), (1, 2, 3, 4, 5, 6, 7, 8))

    def test_notes_come_by_the_order_of_rows(self):
        one = (note(2), both((note(3),), (note(4),)), note(5))
        program = (note(1), both(one, (note(6),)), note(7), both((note(8),), (note(9),)), note(10))
        order = (TOP, TOP, OTHER, ONE, ONE, (0, 0, 0, 1), (0, 0, 0, 0), ONE, TOP, TOP, (1, 1), (1, 0), TOP)
        self.comes(program, order, (0,), (1, 2, 3, 4, 5, 6, 7, 8, 9, 10))

    def test_more_than_ten_forks_of_a_row(self):
        program = (("again", 4, (("again", 3, (both((note(READ), ("add", 0, 1)), (work(1),)),)),)),)
        order = ()
        for fork in range(12):
            order += (TOP, (fork, 0), (fork, 1), (fork, 0))
        self.comes(program, order, (12,), tuple(range(12)))

    def test_cells_that_are_not_there(self):
        program = (both((("set", 3, 1), note(("cell", 3))), (("add", 0, ("cell", 5)),)),)
        self.comes(program, (TOP, ONE, OTHER, ONE), (4,), (0,), (4,))


class None_(Orders):
    program = (both((work(1), ("set", 0, 1)), (("set", 0, 2),)), work(1))

    def test_as_it_is(self):
        self.comes(self.program, (TOP, ONE, OTHER, ONE, TOP), (1,))

    def test_ends_too_early(self):
        order = (TOP, ONE, OTHER, ONE, TOP)
        for length in range(5):
            self.none(self.program, order[:length])

    def test_goes_on_behind_the_end(self):
        for name in (TOP, ONE, OTHER, (1, 0), (1, 1), (0, 0, 0, 0)):
            self.none(self.program, (TOP, ONE, OTHER, ONE, TOP, name))

    def test_a_row_not_yet_open(self):
        self.none(self.program, (ONE, TOP, OTHER, ONE, TOP))
        self.none(self.program, (OTHER, TOP, ONE, ONE, TOP))
        twice = (both((work(1),), (work(1),)),) * 2
        self.none(twice, (TOP, ONE, (1, 0), OTHER, TOP, (1, 1)))
        self.none(twice, (TOP, ONE, OTHER, (1, 0), TOP, (1, 1)))
        self.comes(twice, (TOP, ONE, OTHER, TOP, (1, 0), (1, 1)), (0,))

    def test_a_row_that_waits(self):
        self.none(self.program, (TOP, TOP, ONE, OTHER, ONE))
        self.none(self.program, (TOP, ONE, TOP, OTHER, ONE))
        self.none(self.program, (TOP, ONE, OTHER, TOP, ONE))
        self.none(self.program, (TOP, ONE, ONE, TOP, OTHER))
        deep = (both((both((work(1),), (work(1),)), work(1)), (work(1),)),)
        self.none(deep, (TOP, ONE, ONE, (0, 0, 0, 0), (0, 0, 0, 1), OTHER))
        self.none(deep, (TOP, ONE, (0, 0, 0, 0), ONE, (0, 0, 0, 1), OTHER))
        self.comes(deep, (TOP, ONE, (0, 0, 0, 0), (0, 0, 0, 1), ONE, OTHER), (0,))

    def test_a_row_that_is_over(self):
        self.none(self.program, (TOP, OTHER, OTHER, ONE, ONE, TOP))
        self.none(self.program, (TOP, ONE, ONE, ONE, OTHER, TOP))
        self.none(self.program, (TOP, ONE, OTHER, ONE, OTHER, TOP))
        self.none(self.program, (TOP, ONE, OTHER, ONE, ONE))

    def test_names_of_no_row(self):
        order = (TOP, ONE, OTHER, ONE, TOP)
        for place in range(5):
            for name in ((0,), (1,), (0, 2), (0, -1), (-1, 0), (-1, -1), (1, 0), (2, 1), (0, 0, 0), (0, 1, 0, 0), (-1,),
                         (0, 0, -1, 0), (10 ** 30, 0), (0, 10 ** 30), (-10 ** 30,), (0,) * 40):
                self.none(self.program, order[:place] + (name,) + order[place + 1:])
                self.none(self.program, order[:place] + (name,) + order[place:])

    def test_the_empty_order(self):
        for program in (self.program, (work(1),), (("if", 0, (), ()),)):
            self.none(program, ())


class Many(unittest.TestCase):
    def test_the_order_of_being_done_alone(self):
        for program, cells in programs_with_cells(300, False, 61):
            order = self.crew_order(Crew(program, cells, 1), lambda: (0,))
            self.assertEqual(done_in(program, cells, order), alone(program, cells))

    def crew_order(self, crew, turns):
        order = []
        while not crew.is_over():
            order += [told[0] for told in crew.tick(turns()) if told is not None]
        return tuple(order)

    def test_the_orders_of_crews(self):
        chance = random.Random(62)
        for program, cells in programs_with_cells(300, False, 62):
            for hands in (2, 3, 6):
                crew = Crew(program, cells, hands)
                order = self.crew_order(crew, lambda: any_turns(chance, hands))
                self.assertEqual(done_in(program, cells, order), (crew.cells(), crew.notes()))

    def test_all_orders_that_there_are(self):
        for program, cells in racing_programs(150, 63, most=9):
            for order, told in model.orders_of(program, cells).items():
                self.assertEqual(done_in(program, cells, order), told)

    def test_any_orders(self):
        chance = random.Random(64)
        found = {True: 0, False: 0}
        for program, cells in small_programs(100, False, 64, 9) + racing_programs(100, 64, most=9):
            orders = sorted(model.orders_of(program, cells))[:20]
            names = sorted({name for order in orders for name in order}) + [(0,), (1, 1), (-1, 0)]
            for order in orders:
                changed = list(order)
                for turn in range(chance.randint(1, 2)):
                    place, other = chance.randrange(len(order)), chance.randrange(len(order))
                    changed[place], changed[other] = changed[other], changed[place]
                if chance.random() < 0.3:
                    changed[chance.randrange(len(order))] = chance.choice(names)
                told = model.done_in(program, cells, tuple(changed))
                found[told is None] += 1
                self.assertEqual(done_in(program, cells, tuple(changed)), told, (program, changed))
        self.assertGreater(min(found.values()), 100)

    def test_nothing_but_tuples_and_whole_numbers(self):
        for program, cells in racing_programs(50, 65, most=9):
            for order in list(model.orders_of(program, cells))[:5]:
                told = done_in(program, cells, order)
                self.assertEqual([type(part) for part in told], [tuple, tuple])
                self.assertTrue(all(type(number) is int for part in told for number in part))
                self.assertEqual(done_in(program, cells, order), told)


class Beyond(Orders):
    def test_rows_without_a_unit_are_over_as_they_are_opened(self):
        self.comes((both((), ()), note(1)), (TOP, TOP), (0,), (1,))
        self.comes((both((note(1),), ()), note(2)), (TOP, ONE, TOP), (0,), (1, 2))
        self.comes((both((), (note(1),)), note(2)), (TOP, OTHER, TOP), (0,), (1, 2))
        self.none((both((), (note(1),)), note(2)), (TOP, ONE, TOP))

    def test_long_orders(self):
        deep = (work(9),)
        for turn in range(5):
            deep = (("again", 4, deep),)
        self.comes((both(deep, (note(1),)),), (TOP, OTHER) + (ONE,) * (9 * 4 ** 5), (0,), (1,))

    def test_a_long_row(self):
        self.comes((("add", 0, 1),) * 200, (TOP,) * 200, (200,))


if __name__ == "__main__":
    unittest.main()
