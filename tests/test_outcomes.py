import itertools
import random
import unittest

import model
from joincrew.alone import alone, race
from joincrew.crews import Crew
from joincrew.orders import done_in, order_to, outcomes
from joincrew.turning import exchanged
from running import any_turns, racing_programs, small_programs
from samples import both

TOP, ONE, OTHER = (), (0, 0), (0, 1)
READ = ("cell", 0)
UNIT = (("work", 1),)


def digit(number):
    """Writes a number behind those in cell 0, by 5: so this cell tells the order of up to four of them."""
    return ("set", 0, ("plus", ("times", READ, 5), number))


def written(digits):
    number = 0
    for part in digits:
        number = number * 5 + part
    return number


def weaves(one, other):
    """All ways to put two rows into one."""
    for places in itertools.combinations(range(len(one) + len(other)), len(one)):
        first, second = iter(one), iter(other)
        yield tuple(next(first if place in places else second) for place in range(len(one) + len(other)))


class Outcomes(unittest.TestCase):
    def come(self, program, cells, told):
        """Just these come, in this order, each by an order that is told; others don't."""
        self.assertEqual(outcomes(program, cells), told)
        for goal in told:
            self.leads(program, cells, goal)
        for goal in ((), (0,) * 7, (1000,), (-1,) * len(cells)):
            self.assertIsNone(order_to(program, cells, goal))
        for number in range(12):
            goal = (number,) + cells[1:]
            self.assertEqual(order_to(program, cells, goal) is not None, goal in told)

    def leads(self, program, cells, goal):
        order = order_to(program, cells, goal)
        self.assertIs(type(order), tuple)
        self.assertEqual(done_in(program, cells, order)[0], goal, (program, order))
        self.assertEqual(model.done_in(program, cells, order)[0], goal)


class ByHand(Outcomes):
    def test_the_program_without_steps(self):
        self.come((), (3, 4), ((3, 4),))
        self.assertEqual(order_to((), (3, 4), (3, 4)), ())
        self.assertIsNone(order_to((), (3, 4), (4, 3)))

    def test_one_row(self):
        program = (("add", 0, 2), ("note", READ), ("work", 3), ("again", 2, (("add", 0, READ),)))
        self.come(program, (1,), ((12,),))
        self.assertEqual(order_to(program, (1,), (12,)), (TOP,) * 7)

    def test_two_orders(self):
        program = (both((("set", 0, ("plus", READ, 1)),), (("set", 0, ("times", READ, 2)),)),)
        self.come(program, (1,), ((3,), (4,)))
        self.assertEqual(order_to(program, (1,), (3,)), (TOP, OTHER, ONE))
        self.assertEqual(order_to(program, (1,), (4,)), (TOP, ONE, OTHER))
        self.come(program, (0,), ((1,), (2,)))

    def test_several_orders_to_the_same_cells(self):
        program = (both((("add", 0, 1),), (("add", 0, 2),)),)
        self.come(program, (5,), ((8,),))
        self.assertIn(order_to(program, (5,), (8,)), ((TOP, ONE, OTHER), (TOP, OTHER, ONE)))
        self.come((both((("set", 0, 3),), (("set", 0, 3),)),), (5,), ((3,),))

    def test_three_places_for_a_set(self):
        program = (both((("add", 0, 1), ("add", 0, READ)), (("set", 0, 5),)),)
        self.come(program, (0,), ((5,), (10,), (12,)))
        self.assertEqual(order_to(program, (0,), (5,)), (TOP, ONE, ONE, OTHER))
        self.assertEqual(order_to(program, (0,), (10,)), (TOP, ONE, OTHER, ONE))
        self.assertEqual(order_to(program, (0,), (12,)), (TOP, OTHER, ONE, ONE))

    def test_rising_by_numbers_from_the_first_cell_on(self):
        program = (both((("set", 0, 9), ("set", 1, 100)), (("set", 0, 10), ("set", 1, 20))),)
        self.come(program, (0, 0), ((9, 20), (9, 100), (10, 20), (10, 100)))

    def test_an_if_that_asks_what_is_set(self):
        program = (both((("if", READ, (("set", 1, 7),), (("set", 1, 8), ("work", 1))),), (("set", 0, 1),)),)
        self.come(program, (0, 0), ((1, 7), (1, 8)))
        self.come(program, (3, 0), ((1, 7),))

    def test_what_comes_in_one_order_alone(self):
        is_2 = ("if", ("under", READ, 2), (), (("if", ("under", READ, 3), (("set", 1, 1),), ()),))
        program = (both((("set", 0, 1), ("set", 0, 2), ("set", 0, 3)), (is_2,)),)
        self.come(program, (0, 0), ((3, 0), (3, 1)))
        self.assertEqual(order_to(program, (0, 0), (3, 1)), (TOP, ONE, ONE, OTHER, OTHER, OTHER, ONE))

    def test_what_was_noted_does_not_matter(self):
        self.come((both((("note", READ),), (("set", 0, 1),)), ("note", READ)), (0,), ((1,),))

    def test_a_row_goes_on_only_when_both_are_over(self):
        self.come((both((("set", 0, 1),), (("set", 0, 2),)), ("set", 0, 3)), (0,), ((3,),))
        self.come((both((("set", 0, 1),), UNIT), ("add", 0, ("cell", 0))), (0,), ((2,),))

    def test_cells_that_are_not_there(self):
        self.come((both((("set", 3, 1),), (("set", 3, 2), ("add", 0, ("cell", 3)))),), (4,), ((4,),))

    def test_work_and_notes_give_place_to_others(self):
        program = (both((("set", 0, 1), ("work", 2), ("note", 1), ("set", 1, READ)), (("set", 0, 2),)),)
        self.come(program, (0, 0), ((1, 1), (2, 1), (2, 2)))


class Woven(Outcomes):
    def test_all_ways_to_weave_two_short_rows(self):
        for count, place in ((2, 1), (3, 1), (3, 2), (4, 1), (4, 2), (4, 3)):
            digits = tuple(range(1, count + 1))
            one, other = digits[:place], digits[place:]
            program = (both(tuple(digit(number) for number in one), tuple(digit(number) for number in other)),)
            told = tuple(sorted((written(digits),) for digits in weaves(one, other)))
            self.assertEqual(len(told), len(set(told)))
            self.come(program, (0,), told)

    def test_forks_in_forks(self):
        three = tuple(sorted((written(digits),) for digits in itertools.permutations((1, 2, 3))))
        self.come((both((digit(1),), (both((digit(2),), (digit(3),)),)),), (0,), three)
        self.come((both((both((digit(1),), (digit(2),)),), (digit(3),)),), (0,), three)
        four = tuple(sorted((written(digits),) for digits in itertools.permutations((1, 2, 3, 4))))
        self.come((both((both((digit(1),), (digit(2),)),), (both((digit(3),), (digit(4),)),)),), (0,), four)
        self.come((both((digit(1), both((digit(2),), (digit(3),))), (digit(4),)),), (0,),
                  tuple(one for one in four if one in [(written(digits),) for digits in self.with_first(4)]))

    def with_first(self, others):
        """Those in which 1 stands ahead of 2 and of 3."""
        return [digits for digits in itertools.permutations((1, 2, 3, others))
                if digits.index(1) < min(digits.index(2), digits.index(3))]

    def test_forks_one_behind_the_other(self):
        program = (both((digit(1),), (digit(2),)), both((digit(3),), (digit(4),)))
        told = [(written(one + other),) for one in ((1, 2), (2, 1)) for other in ((3, 4), (4, 3))]
        self.come(program, (0,), tuple(sorted(told)))

    def test_forks_in_again(self):
        program = (("again", 2, (both((digit(1),), (digit(2),)),)),)
        told = [(written(one + other),) for one in ((1, 2), (2, 1)) for other in ((1, 2), (2, 1))]
        self.come(program, (0,), tuple(sorted(told)))

    def test_again_in_a_fork(self):
        program = (both((("again", 2, (digit(1),)),), (("again", 2, (digit(2),)),)),)
        self.come(program, (0,), tuple(sorted({(written(digits),) for digits in itertools.permutations((1, 1, 2, 2))})))

    def test_forks_in_if(self):
        fork = (both((digit(1),), (digit(2),)),)
        self.come((("if", READ, fork, (digit(3),)),), (0,), ((3,),))
        self.come((("if", READ, fork, (digit(3),)),), (1,), ((written((1, 1, 2)),), (written((1, 2, 1)),)))
        self.come((("if", READ, (digit(3),), fork),), (0,), ((written((1, 2)),), (written((2, 1)),)))
        self.come((both((("if", READ, fork, ()),), (digit(4),)),), (0,),
                  tuple(sorted((written(digits),) for digits in [(4,), (4, 1, 2), (4, 2, 1)])))


class Many(Outcomes):
    def test_the_cells_of_all_orders_that_there_are(self):
        several = 0
        for program, cells in racing_programs(200, 71, most=9) + small_programs(100, False, 71, 9):
            told = {cells_behind for cells_behind, notes in model.orders_of(program, cells).values()}
            self.assertEqual(outcomes(program, cells), tuple(sorted(told)), program)
            several += len(told) > 1
        self.assertGreater(several, 100)

    def test_each_comes_by_its_order(self):
        for program, cells in racing_programs(200, 72):
            told = outcomes(program, cells)
            for goal in told[:8]:
                self.leads(program, cells, goal)
            for other in ((0, 0), (1, 1), told[0][:1], told[-1] + (0,)):
                self.assertEqual(order_to(program, cells, other) is not None, other in told)

    def test_without_a_race_it_is_one_thing_alone(self):
        for program, cells in small_programs(200, True, 73):
            self.assertEqual(outcomes(program, cells), (alone(program, cells)[0],))
        found = 0
        for program, cells in small_programs(200, False, 74) + racing_programs(200, 74):
            if race(program, cells) is None:
                found += 1
                self.assertEqual(outcomes(program, cells), (alone(program, cells)[0],))
        self.assertGreater(found, 50)

    def test_what_runs_end_with_is_among_them(self):
        chance = random.Random(75)
        for program, cells in racing_programs(200, 75):
            told = outcomes(program, cells)
            self.assertIn(alone(program, cells)[0], told)
            self.assertIn(alone(exchanged(program), cells)[0], told)
            for hands in range(1, 7):
                crew = Crew(program, cells, hands)
                while not crew.is_over():
                    crew.tick(any_turns(chance, hands))
                self.assertIn(crew.cells(), told)

    def test_the_exchanged_program_ends_with_the_same(self):
        for program, cells in racing_programs(100, 76):
            self.assertEqual(outcomes(exchanged(program), cells), outcomes(program, cells))

    def test_tuples_of_whole_numbers_each_once_and_rising(self):
        for program, cells in racing_programs(100, 77):
            told = outcomes(program, cells)
            self.assertIs(type(told), tuple)
            self.assertEqual(list(told), sorted(set(told)))
            self.assertTrue(all(type(part) is tuple and all(type(number) is int for number in part) for part in told))
            self.assertEqual(outcomes(program, cells), told)
            self.assertEqual(order_to(program, cells, told[0]), order_to(program, cells, told[0]))


class TwelveUnits(Outcomes):
    """Programs whose orders are as many as they may be."""

    def row(self, places):
        own, beside = lambda place: ("cell", place % 3), lambda place: ("cell", (place + 1) % 3)
        return tuple(("set", place % 3, ("plus", ("times", own(place), 3), ("plus", beside(place), place)))
                     for place in places)

    def test_two_rows(self):
        self.comes_of((both(self.row(range(6)), self.row(range(6, 11))),), 462)

    def test_three_rows(self):
        self.comes_of((both(self.row(range(3)), (both(self.row(range(3, 6)), self.row(range(6, 10))),)),), 4200)

    def test_four_rows(self):
        sides = [(both(self.row(range(place, place + 2)), self.row(range(place + 2, place + 4))),) for place in (0, 4)]
        self.comes_of((both(sides[0], sides[1]),) + self.row((8,)), 2520)

    def test_six_rows(self):
        sides = [(both(self.row((place,)), (both(self.row((place + 1,)), self.row((place + 2,))),)),)
                 for place in (0, 3)]
        self.comes_of((both(sides[0], sides[1]),) + self.row((8,)), 720)

    def comes_of(self, program, weaves_of_units):
        cells = (1, 20, 300)
        told = outcomes(program, cells)
        self.assertGreater(len(told), 50)
        self.assertLessEqual(len(told), weaves_of_units)
        for goal in random.Random(78).sample(told, 5):
            self.leads(program, cells, goal)

    def test_rows_that_touch_nothing(self):
        row = (("work", 2),)
        self.come((both((both(row, row),), (both(row, (("work", 3),)),)),), (1,), ((1,),))

    def test_somewhat_beyond(self):
        program = (both(self.row(range(4)), (both(self.row(range(4, 8)), (("work", 6),)),)),)
        self.comes_of(program, 70)
        row = (("work", 9),)
        self.come((both((both(row, row),), (both(row, row),)),), (1,), ((1,),))


if __name__ == "__main__":
    unittest.main()
