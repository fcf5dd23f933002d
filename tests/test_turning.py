import random
import unittest

from joincrew.alone import alone, measures, race, touched
from joincrew.crews import Crew
from joincrew.mending import count_boths, mended, without_boths
from joincrew.orders import done_in, order_to, outcomes
from joincrew.papers import is_paper, run
from joincrew.things import is_program
from joincrew.turning import exchanged, in_a_row, with_hands
from running import any_turns, programs_with_cells, small_programs
from samples import PLAIN_STEPS, both, in_its_place, is_plain, programs

A, B, C, D = (("note", 1),), (("set", 1, 2),), (("add", 0, ("cell", 1)),), (("work", 4),)
SUM = ("under", ("cell", 0), 9)


# A program, the same with its rows exchanged, the same in a row.
BY_HAND = (
    ((), (), ()),
    ((both(A, B),), (both(B, A),), (in_its_place(A + B),)),
    ((both(A, A),), (both(A, A),), (in_its_place(A + A),)),
    (A + (both(A + B, C),) + D, A + (both(C, A + B),) + D, A + (in_its_place(A + B + C),) + D),
    ((both(A, B), both(C, D)), (both(B, A), both(D, C)), (in_its_place(A + B), in_its_place(C + D))),
    ((both((both(A, B),), C),), (both(C, (both(B, A),)),), (in_its_place((in_its_place(A + B),) + C),)),
    ((both(A, (both(B, C),)),), (both((both(C, B),), A),), (in_its_place(A + (in_its_place(B + C),)),)),
    ((both((both(A, B),), (both(C, D),)),), (both((both(D, C),), (both(B, A),)),),
     (in_its_place((in_its_place(A + B), in_its_place(C + D))),)),
    ((("if", SUM, (both(A, B),), C),), (("if", SUM, (both(B, A),), C),), (("if", SUM, (in_its_place(A + B),), C),)),
    ((("if", SUM, A, (both(C, B),)),), (("if", SUM, A, (both(B, C),)),), (("if", SUM, A, (in_its_place(C + B),)),)),
    ((("if", SUM, (), (both(C, B),)),), (("if", SUM, (), (both(B, C),)),),
     (("if", SUM, (), (in_its_place(C + B),)),)),
    ((("again", 3, (both(A, B),) + C),), (("again", 3, (both(B, A),) + C),),
     (("again", 3, (in_its_place(A + B),) + C),)),
    ((both((("again", 2, (both(A, B),)),), (("if", SUM, (both(C, D),), ()),)),),
     (both((("if", SUM, (both(D, C),), ()),), (("again", 2, (both(B, A),)),)),),
     (in_its_place((("again", 2, (in_its_place(A + B),)), ("if", SUM, (in_its_place(C + D),), ()))),)),
)


class ByHand(unittest.TestCase):
    def test_steps_that_have_no_rows_stay(self):
        for step in PLAIN_STEPS:
            self.assertEqual(exchanged((step,)), (step,))
            self.assertEqual(in_a_row((step,)), (step,))

    def test_steps_without_a_both_in_them_stay(self):
        for step in (("if", SUM, A, B), ("if", SUM, (), A + B), ("again", 4, A + B), ("again", 1, (("if", 1, (), ()),))):
            self.assertEqual(exchanged((step,) + A), (step,) + A)
            self.assertEqual(in_a_row((step,) + A), (step,) + A)

    def test_programs(self):
        for program, turned, flat in BY_HAND:
            self.assertEqual(exchanged(program), turned)
            self.assertEqual(in_a_row(program), flat)
            self.assertEqual(exchanged(turned), program)
            self.assertEqual(in_a_row(flat), flat)
            self.assertEqual(exchanged(flat), flat)

    def test_rows_with_more_than_six_steps(self):
        one = tuple(("note", number) for number in range(6))
        other = tuple(("note", number) for number in range(6, 12))
        self.assertEqual(in_a_row((both(one, other),)), (in_its_place(one + other),))
        self.assertFalse(is_program(in_a_row((both(one, other),))))
        self.assertEqual(in_a_row((both((both(one, other),) * 6, other),)),
                         (in_its_place((in_its_place(one + other),) * 6 + other),))

    def test_lists_stand_nowhere(self):
        for program in [told[0] for told in BY_HAND] + programs(100, 51):
            self.assertTrue(is_plain(exchanged(program)))
            self.assertTrue(is_plain(in_a_row(program)))


class Many(unittest.TestCase):
    def test_twice_exchanged_is_the_program(self):
        for program in programs(600, 52):
            turned = exchanged(program)
            self.assertTrue(is_program(turned))
            self.assertEqual(exchanged(turned), program)
            self.assertEqual(str(turned).count("'both'"), str(program).count("'both'"))

    def test_in_a_row_no_both_is_left(self):
        for program in programs(600, 53):
            flat = in_a_row(program)
            self.assertNotIn("'both'", str(flat))
            self.assertEqual(flat == program, "'both'" not in str(program))
            self.assertEqual(in_a_row(exchanged(exchanged(program))), flat)

    def test_in_a_row_each_program_ends_as_it_does_alone(self):
        for program, cells in programs_with_cells(500, False, 54):
            flat = in_a_row(program)
            work = measures(program, cells)[0]
            self.assertEqual(alone(flat, cells), alone(program, cells))
            self.assertEqual(measures(flat, cells), (work, work, 0))
            self.assertIsNone(race(flat, cells))
            touches = touched(flat, cells)
            self.assertEqual([touch[2:] for touch in touches], [touch[2:] for touch in touched(program, cells)])
            self.assertTrue(all(touch[0] == () for touch in touches))

    def test_exchanged_where_nothing_races(self):
        others = 0
        for program, cells in programs_with_cells(500, True, 55):
            turned = exchanged(program)
            self.assertIsNone(race(turned, cells))
            cells_behind, notes = alone(program, cells)
            turned_cells, turned_notes = alone(turned, cells)
            self.assertEqual(turned_cells, cells_behind)
            self.assertEqual(sorted(turned_notes), sorted(notes))
            self.assertEqual(measures(turned, cells), measures(program, cells))
            others += turned_notes != notes
        self.assertGreater(others, 20)

    def test_exchanged_of_programs_in_which_no_race_is_told(self):
        found = 0
        for program, cells in programs_with_cells(900, False, 56):
            if race(program, cells) is None and measures(program, cells)[2] > 0:
                found += 1
                turned = exchanged(program)
                self.assertIsNone(race(turned, cells))
                self.assertEqual(alone(turned, cells)[0], alone(program, cells)[0])
                self.assertEqual(measures(turned, cells), measures(program, cells))
        self.assertGreater(found, 30)


class Taken(unittest.TestCase):
    """All other functions take what in_a_row makes."""

    def test_by_hand(self):
        program = (both(tuple(("add", 0, n) for n in range(1, 7)), (("note", ("cell", 0)), ("set", 1, ("cell", 0)))),)
        flat = in_a_row(program)
        self.assertEqual(alone(flat, (0, 0)), ((21, 21), (21,)))
        self.assertEqual(measures(flat, (0, 0)), (9, 9, 0))
        self.assertEqual(len(touched(flat, (0, 0))), 9)
        self.assertEqual(touched(flat, (0, 0))[6:],
                         (((), 7, "read", 0), ((), 8, "read", 0), ((), 8, "set", 1)))
        self.assertIsNone(race(flat, (0, 0)))
        self.assertEqual(run(flat, (0, 0), 2, 1), (((((), None), None),) * 9, (21, 21), (21,)))
        self.assertIs(is_paper(flat, (0, 0), 2, ((((), None), None),) * 9), True)
        self.assertIs(is_paper(flat, (0, 0), 2, ((((), None), None),) * 8), False)
        self.assertEqual(done_in(flat, (0, 0), ((),) * 9), ((21, 21), (21,)))
        self.assertIsNone(done_in(flat, (0, 0), ((),) * 8))
        self.assertEqual(outcomes(flat, (0, 0)), ((21, 21),))
        self.assertEqual(order_to(flat, (0, 0), (21, 21)), ((),) * 9)
        self.assertIsNone(order_to(flat, (0, 0), (21, 0)))
        self.assertEqual((count_boths(flat), mended(flat, (0, 0)), without_boths(flat, ())), (0, (), flat))
        self.assertEqual((exchanged(flat), in_a_row(flat), with_hands(flat, (0, 0), 4)), (flat, flat, (9,) * 6))

    def test_crews(self):
        chance = random.Random(57)
        for program, cells in programs_with_cells(200, False, 57):
            flat = in_a_row(program)
            for hands in (1, 3):
                crew = Crew(flat, cells, hands)
                while not crew.is_over():
                    crew.tick(any_turns(chance, hands))
                self.assertEqual((crew.cells(), crew.notes()), alone(program, cells))
                self.assertEqual(crew.ticks(), measures(program, cells)[0])

    def test_orders_and_papers(self):
        for program, cells in small_programs(200, False, 58):
            flat = in_a_row(program)
            paper, cells_behind, notes = run(flat, cells, 2, 3)
            self.assertEqual((cells_behind, notes), alone(program, cells))
            self.assertIs(is_paper(flat, cells, 2, paper), True)
            self.assertEqual(done_in(flat, cells, ((),) * len(paper)), alone(program, cells))
            self.assertEqual(outcomes(flat, cells), (cells_behind,))
            self.assertEqual(order_to(flat, cells, cells_behind), ((),) * len(paper))
            self.assertEqual((count_boths(flat), mended(flat, cells)), (0, ()))


class WithHands(unittest.TestCase):
    def test_by_hand(self):
        self.assertEqual(with_hands((), (0,), 3), (0,) * 6)
        self.assertEqual(with_hands(D, (0,), 3), (4,) * 6)
        self.assertEqual(with_hands((both(D, D),), (0,), 0), (9,) + (5,) * 5)
        four = (both((both(D, D),), (both(D, D),)),)
        self.assertEqual(with_hands(four, (0,), 0), (19, 10, 10, 6, 6, 6))
        self.assertEqual(with_hands((both(D, D), both(D, A)), (0,), 9), (15, 10, 10, 10, 10, 10))

    def test_the_ticks_of_run(self):
        by_seed = 0
        for program, cells in programs_with_cells(100, False, 59):
            told = set()
            for seed in (0, 1, 2, 3, 10 ** 20):
                ticks = with_hands(program, cells, seed)
                self.assertIs(type(ticks), tuple)
                self.assertEqual(ticks, tuple(len(run(program, cells, hands, seed)[0]) for hands in range(1, 7)))
                told.add(ticks)
            by_seed += len(told) > 1
        self.assertGreater(by_seed, 3)


if __name__ == "__main__":
    unittest.main()
