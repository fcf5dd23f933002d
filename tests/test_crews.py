import unittest

from joincrew.alone import alone, touched
from joincrew.crews import Crew, fewest_ticks, most_ticks
from joincrew.errors import CrewError, NoText, NoTick
from running import programs_with_cells
from samples import both, is_plain, note, work

TOP, ONE, OTHER = (), (0, 0), (0, 1)
LONG = 10 ** 20


def state(crew):
    return (crew.is_over(), crew.cells(), crew.notes(), crew.ticks(), crew.units(), crew.open_rows(), crew.piles(),
            crew.having())


def run(crew, turns):
    told = []
    while not crew.is_over():
        told.append(crew.tick(turns))
    return tuple(told)


class Crews(unittest.TestCase):
    def stands(self, crew, having, piles, open_rows, units, notes, cells=(0,)):
        self.assertEqual((crew.having(), crew.piles(), crew.open_rows(), crew.units(), crew.notes(), crew.cells()),
                         (having, piles, open_rows, units, notes, cells))

    def goes(self, crew, turns, told, having, piles, open_rows, units, notes, cells=(0,)):
        ticks = crew.ticks()
        self.assertFalse(crew.is_over())
        self.assertEqual(crew.tick(turns), told)
        self.assertEqual(crew.ticks(), ticks + 1)
        self.stands(crew, having, piles, open_rows, units, notes, cells)


class Beginning(Crews):
    def test_hand_0_has_the_program(self):
        for hands in range(1, 7):
            crew = Crew((work(1),), (3, 4), hands)
            self.assertEqual(state(crew), (False, (3, 4), (), 0, 0, 1, ((),) * hands, (TOP,) + (None,) * (hands - 1)))

    def test_the_program_without_steps_is_over_at_once(self):
        for hands in range(1, 7):
            crew = Crew((), (3, 4), hands)
            over = (True, (3, 4), (), 0, 0, 0, ((),) * hands, (None,) * hands)
            self.assertEqual(state(crew), over)
            with self.assertRaises(NoTick):
                crew.tick((0,) * hands)
            self.assertEqual(state(crew), over)


class ByHand(Crews):
    def test_one_hand_and_each_kind_of_step(self):
        crew = Crew((("set", 0, 5), ("add", 0, ("cell", 0)), note(("cell", 0)), work(2),
                     ("again", 2, (("if", ("cell", 0), (("set", 0, 0),), ()),))), (1,), 1)
        told = ((TOP, None),)
        self.goes(crew, (0,), told, (TOP,), ((),), 1, 1, (), (5,))
        self.goes(crew, (0,), told, (TOP,), ((),), 1, 2, (), (10,))
        self.goes(crew, (0,), told, (TOP,), ((),), 1, 3, (10,), (10,))
        self.goes(crew, (0,), told, (TOP,), ((),), 1, 4, (10,), (10,))
        self.goes(crew, (0,), told, (TOP,), ((),), 1, 5, (10,), (10,))
        self.goes(crew, (0,), told, (TOP,), ((),), 1, 6, (10,), (10,))
        self.goes(crew, (0,), told, (TOP,), ((),), 1, 7, (10,), (0,))
        # The look at the if is the last unit: behind it there is nothing left.
        self.goes(crew, (0,), told, (None,), ((),), 0, 8, (10,), (0,))
        self.assertTrue(crew.is_over())

    def test_a_fork_and_two_hands(self):
        crew = Crew((both((work(2), note(1)), (note(2), work(1))), note(3)), (0,), 2)
        self.stands(crew, (TOP, None), ((), ()), 1, 0, ())
        self.goes(crew, (0, 0), ((TOP, None), None), (ONE, None), ((OTHER,), ()), 3, 1, ())
        # A hand that takes does a unit in the same tick; what other noted is told, one having noted nothing yet.
        self.goes(crew, (0, 0), ((ONE, None), (OTHER, 0)), (ONE, OTHER), ((), ()), 3, 3, (2,))
        self.goes(crew, (0, 0), ((ONE, None), (OTHER, None)), (ONE, None), ((), ()), 2, 5, (2,))
        # What one notes later is told ahead of it.
        self.goes(crew, (0, 0), ((ONE, None), None), (TOP, None), ((), ()), 1, 6, (1, 2))
        self.goes(crew, (0, 0), ((TOP, None), None), (None, None), ((), ()), 0, 7, (1, 2, 3))
        self.assertTrue(crew.is_over())

    def test_a_fork_and_one_hand(self):
        crew = Crew((both((note(1),), (note(2),)), note(3)), (0,), 1)
        self.goes(crew, (0,), ((TOP, None),), (ONE,), ((OTHER,),), 3, 1, ())
        self.goes(crew, (0,), ((ONE, None),), (OTHER,), ((),), 2, 2, (1,))
        # From its own pile a hand takes nothing: it has it.
        self.goes(crew, (0,), ((OTHER, None),), (TOP,), ((),), 1, 3, (1, 2))
        self.goes(crew, (0,), ((TOP, None),), (None,), ((),), 0, 4, (1, 2, 3))

    def test_a_row_that_waits_goes_on_where_the_last_of_its_rows_is_over(self):
        crew = Crew((both((note(1),), (work(2), note(2))), note(3)), (0,), 2)
        self.goes(crew, (0, 0), ((TOP, None), None), (ONE, None), ((OTHER,), ()), 3, 1, ())
        self.goes(crew, (0, 0), ((ONE, None), (OTHER, 0)), (None, OTHER), ((), ()), 2, 3, (1,))
        self.goes(crew, (0, 0), (None, (OTHER, None)), (None, OTHER), ((), ()), 2, 4, (1,))
        self.goes(crew, (0, 0), (None, (OTHER, None)), (None, TOP), ((), ()), 1, 5, (1, 2))
        self.goes(crew, (0, 0), (None, (TOP, None)), (None, None), ((), ()), 0, 6, (1, 2, 3))

    def test_rows_that_are_over_in_the_same_tick(self):
        crew = Crew((both((note(1),), (note(2),)), note(3)), (0,), 2)
        self.goes(crew, (0, 0), ((TOP, None), None), (ONE, None), ((OTHER,), ()), 3, 1, ())
        # Hand by hand: when hand 0 is behind its row, the other one is not over yet.
        self.goes(crew, (0, 0), ((ONE, None), (OTHER, 0)), (None, TOP), ((), ()), 1, 3, (1, 2))
        self.goes(crew, (0, 0), (None, (TOP, None)), (None, None), ((), ()), 0, 4, (1, 2, 3))

    def test_what_was_laid_last_is_had_next_and_rows_end_with_those_in_them(self):
        crew = Crew((both((both((both((work(1),), (note(3),)),), (note(2),)),), (note(1),)),), (0,), 1)
        names = (OTHER, (0, 0, 0, 1), (0, 0, 0, 0, 0, 1))
        self.goes(crew, (0,), ((TOP, None),), (ONE,), (names[:1],), 3, 1, ())
        self.goes(crew, (0,), ((ONE, None),), ((0, 0, 0, 0),), (names[:2],), 5, 2, ())
        self.goes(crew, (0,), (((0, 0, 0, 0), None),), ((0, 0, 0, 0, 0, 0),), (names,), 7, 3, ())
        self.goes(crew, (0,), (((0, 0, 0, 0, 0, 0), None),), (names[2],), (names[:2],), 6, 4, ())
        self.goes(crew, (0,), ((names[2], None),), (names[1],), (names[:1],), 4, 5, (3,))
        self.goes(crew, (0,), ((names[1], None),), (OTHER,), ((),), 2, 6, (3, 2))
        self.goes(crew, (0,), ((OTHER, None),), (None,), ((),), 0, 7, (3, 2, 1))

    def test_what_lies_there_longest_is_taken_first(self):
        crew = Crew((both((both((both((work(9),), (note(3),)),), (note(2),)),), (work(2),)),), (0,), 2)
        low, mid, top = (0, 0, 0, 0, 0, 0), (0, 0, 0, 0), (0, 0)
        self.goes(crew, (0, 0), ((TOP, None), None), (top, None), ((OTHER,), ()), 3, 1, ())
        self.goes(crew, (0, 0), ((top, None), (OTHER, 0)), (mid, OTHER), (((0, 0, 0, 1),), ()), 5, 3, ())
        self.goes(crew, (0, 0), ((mid, None), (OTHER, None)), (low, None), (((0, 0, 0, 1), (0, 0, 0, 0, 0, 1)), ()), 6,
                  5, ())
        self.goes(crew, (0, 0), ((low, None), ((0, 0, 0, 1), 0)), (low, None), (((0, 0, 0, 0, 0, 1),), ()), 5, 7, (2,))
        self.goes(crew, (0, 0), ((low, None), ((0, 0, 0, 0, 0, 1), 0)), (low, None), ((), ()), 4, 9, (3, 2))
        for units in range(10, 16):
            self.goes(crew, (0, 0), ((low, None), None), (low, None), ((), ()), 4, units, (3, 2))
        self.goes(crew, (0, 0), ((low, None), None), (None, None), ((), ()), 0, 16, (3, 2))
        self.assertEqual((crew.is_over(), crew.ticks()), (True, 12))

    def test_more_hands_than_rows(self):
        crew = Crew((both((work(1),), (work(1),)), work(1)), (0,), 6)
        nobody = (None,) * 4
        self.goes(crew, (0,) * 6, ((TOP, None), None) + nobody, (ONE, None) + nobody, ((OTHER,),) + ((),) * 5, 3, 1, ())
        self.goes(crew, (0,) * 6, ((ONE, None), (OTHER, 0)) + nobody, (None, TOP) + nobody, ((),) * 6, 1, 3, ())
        self.goes(crew, (0,) * 6, (None, (TOP, None)) + nobody, (None,) * 6, ((),) * 6, 0, 4, ())

    def test_hands_take_one_behind_the_other(self):
        crew = Crew((both((work(3),), (work(3),)),), (0,), 4)
        crew.tick((0,) * 4)
        # One row lies there, and three hands would take it: the first of them does, whatever the turns.
        self.assertEqual(crew.tick((0, 3, 0, 0)), ((ONE, None), (OTHER, 0), None, None))

    def test_a_row_is_not_taken_in_the_tick_in_which_it_is_laid(self):
        crew = Crew((work(1), both((work(1),), (work(1),))), (0,), 3)
        self.assertEqual(crew.tick((0, 0, 0)), ((TOP, None), None, None))
        self.assertEqual(crew.tick((0, 0, 0)), ((TOP, None), None, None))
        self.assertEqual(crew.tick((0, 0, 0)), ((ONE, None), (OTHER, 0), None))

    def test_forks_one_behind_the_other_and_in_rounds(self):
        crew = Crew((("again", 2, (both((note(1),), (note(2),)), note(3))),), (0,), 2)
        self.goes(crew, (0, 0), ((TOP, None), None), (ONE, None), ((OTHER,), ()), 3, 1, ())
        self.goes(crew, (0, 0), ((ONE, None), (OTHER, 0)), (None, TOP), ((), ()), 1, 3, (1, 2))
        self.goes(crew, (0, 0), (None, (TOP, None)), (None, TOP), ((), ()), 1, 4, (1, 2, 3))
        # Now hand 1 forks, and hand 0 takes.
        self.goes(crew, (0, 0), (None, (TOP, None)), (None, (1, 0)), ((), ((1, 1),)), 3, 5, (1, 2, 3))
        self.goes(crew, (0, 0), (((1, 1), 1), ((1, 0), None)), (None, TOP), ((), ()), 1, 7, (1, 2, 3, 1, 2))
        self.goes(crew, (0, 0), (None, (TOP, None)), (None, None), ((), ()), 0, 8, (1, 2, 3, 1, 2, 3))

    def test_units_of_a_tick_are_done_hand_by_hand(self):
        for program, notes in (((both((("set", 0, 5),), (note(("cell", 0)),)),), (5,)),
                               ((both((note(("cell", 0)),), (("set", 0, 5),)),), (0,))):
            crew = Crew(program, (0,), 2)
            run(crew, (0, 0))
            self.assertEqual((crew.notes(), crew.cells(), crew.ticks()), (notes, (5,), 2))

    def test_what_comes_may_be_another_thing_than_done_alone_where_rows_race(self):
        program = (both((work(1), ("set", 0, 1)), (("set", 0, 2),)),)
        crew = Crew(program, (0,), 2)
        run(crew, (0, 0))
        self.assertEqual((crew.cells(), alone(program, (0,))[0]), ((1,), (2,)))


class Turns(Crews):
    def two_piles(self, hands):
        """A crew of which hand 0 and hand 1 have a row on their piles each, and the others nothing."""
        side = lambda number: (both((work(5),), (note(number),)),)
        crew = Crew((both(side(1), side(2)),), (0,), hands)
        crew.tick((0,) * hands)
        crew.tick((0,) * hands)
        self.assertEqual(crew.piles(), (((0, 0, 0, 1),), ((0, 1, 0, 1),)) + ((),) * (hands - 2))
        return crew

    def test_from_which_hand_on_a_hand_looks(self):
        taken = (((0, 0, 0, 1), 0), ((0, 1, 0, 1), 1))
        for turn, giver in ((0, 0), (1, 1), (2, 0), (3, 0), (4, 1), (5, 0), (-1, 0), (-2, 1), (-3, 0), (-4, 0), (-5, 1),
                            (3 * LONG, 0), (3 * LONG + 1, 1), (3 * LONG + 2, 0), (-3 * LONG, 0), (-3 * LONG - 2, 1)):
            crew = self.two_piles(3)
            told = crew.tick((8, 9, turn))
            self.assertEqual(told, (((0, 0, 0, 0), None), ((0, 1, 0, 0), None), taken[giver]), turn)
            self.assertEqual(crew.piles()[giver], ())

    def test_each_hand_looks_from_a_turn_of_its_own(self):
        first, second = ((0, 0, 0, 1), 0), ((0, 1, 0, 1), 1)
        for turns, takers in (((0, 0, 0, 0), (first, second)), ((1, 1, 0, 0), (first, second)),
                              ((0, 0, 1, 0), (second, first)), ((0, 0, 1, 1), (second, first)),
                              ((0, 0, 2, 1), (first, second)), ((0, 0, 3, 3), (first, second)),
                              ((0, 0, -3, 2), (second, first)), ((0, 0, 5, -1), (second, first))):
            crew = self.two_piles(4)
            self.assertEqual(crew.tick(turns)[2:], takers, turns)

    def test_who_has_a_row_has_no_turn(self):
        for turns in ((0, 0), (1, 0), (-1, 0), (LONG, 0)):
            crew = Crew((both((work(2),), (work(3),)),), (0,), 2)
            crew.tick(turns)
            self.assertEqual(crew.tick(turns), ((ONE, None), (OTHER, 0)))

    def test_turns_do_not_matter_where_one_pile_alone_has_something(self):
        for turn in range(-7, 8):
            crew = Crew((both((work(1),), (work(1),)),), (0,), 5)
            crew.tick((turn,) * 5)
            self.assertEqual(crew.tick((turn,) * 5), ((ONE, None), (OTHER, 0), None, None, None))


class Notes(Crews):
    def test_the_order_of_rows_while_the_crew_is_not_over(self):
        program = (note(1), both((work(3), note(2), both((work(2), note(3)), (note(4),)), note(5)),
                                 (note(6), both((work(9), note(7)), (note(8),)), note(9))), note(10))
        crew = Crew(program, (0,), 6)
        seen = [crew.notes()]
        while not crew.is_over():
            crew.tick((0,) * 6)
            if crew.notes() != seen[-1]:
                seen.append(crew.notes())
        self.assertEqual(seen, [
            (), (1,), (1, 6), (1, 6, 8), (1, 2, 6, 8), (1, 2, 4, 6, 8), (1, 2, 3, 4, 6, 8), (1, 2, 3, 4, 5, 6, 8),
            (1, 2, 3, 4, 5, 6, 7, 8), (1, 2, 3, 4, 5, 6, 7, 8, 9), (1, 2, 3, 4, 5, 6, 7, 8, 9, 10)])

    def test_forks_one_behind_the_other(self):
        crew = Crew((both((work(2), note(1)), (note(2),)), both((work(2), note(3)), (note(4),)), note(5)), (0,), 3)
        seen = []
        while not crew.is_over():
            crew.tick((1, 2, 0))
            seen.append(crew.notes())
        self.assertEqual(seen, [(), (2,), (2,), (1, 2), (1, 2), (1, 2, 4), (1, 2, 4), (1, 2, 3, 4), (1, 2, 3, 4, 5)])


class OneHand(Crews):
    def test_the_units_come_in_the_order_of_being_done_alone(self):
        for program, cells in programs_with_cells(200, False, 21):
            crew = Crew(program, cells, 1)
            names = [told[0][0] for told in run(crew, (0,))]
            # As many units of each row as there are, up to each touch, tell the number of the touch.
            done, places = {}, []
            for name in names:
                places.append((name, done.get(name, 0)))
                done[name] = done.get(name, 0) + 1
            order = {place: number for number, place in enumerate(places)}
            touches = [order[touch[:2]] for touch in touched(program, cells)]
            self.assertEqual(touches, sorted(touches))
            self.assertEqual((crew.cells(), crew.notes()), alone(program, cells))

    def test_all_of_one_then_all_of_other(self):
        program = (work(1), both((work(2), both((work(1),), (work(2),)), work(1)), (work(2),)), work(1))
        low, lower = (0, 0, 0, 0), (0, 0, 0, 1)
        names = (TOP, TOP, ONE, ONE, ONE, low, lower, lower, ONE, OTHER, OTHER, TOP)
        self.assertEqual(run(Crew(program, (0,), 1), (0,)), tuple(((name, None),) for name in names))


class Over(Crews):
    def test_no_tick_behind_the_end(self):
        program = (both((note(1), ("set", 0, 7)), (note(2),)),)
        for hands in range(1, 7):
            crew = Crew(program, (0,), hands)
            run(crew, (1,) * hands)
            over = state(crew)
            self.assertEqual(over[:3], (True, (7,), (1, 2)))
            for refusal in (NoTick, CrewError, ValueError):
                with self.assertRaises(refusal) as caught:
                    crew.tick((1,) * hands)
                self.assertNotIsInstance(caught.exception, NoText)
                self.assertEqual(state(crew), over)

    def test_nobody_has_anything_at_the_end(self):
        for program, cells in programs_with_cells(100, False, 22):
            crew = Crew(program, cells, 3)
            run(crew, (2, 5, 8))
            self.assertEqual((crew.open_rows(), crew.piles(), crew.having()), (0, ((),) * 3, (None,) * 3))

    def test_is_over_is_a_truth(self):
        crew = Crew((work(1),), (0,), 2)
        self.assertIs(crew.is_over(), False)
        crew.tick((0, 0))
        self.assertIs(crew.is_over(), True)


class Told(Crews):
    def test_lists_stand_nowhere(self):
        for program, cells in programs_with_cells(60, False, 23):
            crew = Crew(program, cells, 3)
            while not crew.is_over():
                self.assertTrue(is_plain(crew.tick((0, 1, 2))))
                self.assertTrue(is_plain(state(crew)))

    def test_numbers_are_no_truths(self):
        crew = Crew((("set", 0, ("under", 1, 2)), note(("under", 1, 2)), note(("under", 2, 1))), (0,), 1)
        run(crew, (0,))
        numbers = crew.cells() + crew.notes() + (crew.ticks(), crew.units(), crew.open_rows())
        self.assertEqual([type(number) for number in numbers], [int] * 6)

    def test_to_be_asked_changes_nothing(self):
        program = (both((work(2), note(1)), (note(2), ("add", 0, 1))), note(3))
        asked, other = Crew(program, (0,), 3), Crew(program, (0,), 3)
        while not other.is_over():
            for turn in range(3):
                self.assertEqual(state(asked), state(asked))
            self.assertEqual(asked.tick((1, 2, 3)), other.tick((1, 2, 3)))
        self.assertEqual(state(asked), state(other))

    def test_what_was_told_stays(self):
        program = (both((work(2), note(1)), (note(2), ("add", 0, 1))), note(3))
        crew = Crew(program, (0,), 2)
        crew.tick((0, 0))
        told = state(crew)
        kept = repr(told)
        run(crew, (0, 0))
        self.assertEqual(repr(told), kept)

    def test_two_crews_of_one_program_do_not_touch_one_another(self):
        program = (both((("add", 0, 1), note(("cell", 0))), (("add", 0, 2), note(("cell", 0)))), ("add", 0, 3))
        cells = (0, 5)
        first, second = Crew(program, cells, 2), Crew(program, cells, 2)
        begun = state(second)
        run(first, (0, 0))
        self.assertEqual(state(second), begun)
        second.tick((0, 0))
        self.assertEqual((first.cells(), first.units(), second.cells(), second.units()), ((6, 5), 6, (0, 5), 1))
        run(second, (0, 0))
        self.assertEqual(state(first), state(second))
        self.assertEqual((cells, len(program)), ((0, 5), 2))


class Ticks(unittest.TestCase):
    def test_most_ticks(self):
        for work_and_depth_and_hands, ticks in (
                ((0, 0, 1), 0), ((0, 0, 6), 0), ((7, 7, 1), 7), ((7, 7, 6), 7), ((10, 4, 1), 10), ((10, 4, 2), 7),
                ((10, 4, 3), 6), ((10, 4, 6), 5), ((11, 4, 6), 5), ((9, 4, 6), 4), ((15, 4, 6), 5), ((16, 4, 6), 6),
                ((11, 4, 2), 7), ((12, 4, 2), 8), ((5, 4, 6), 4), ((1000, 10, 6), 175)):
            self.assertEqual(most_ticks(*work_and_depth_and_hands), ticks, work_and_depth_and_hands)

    def test_fewest_ticks(self):
        for work_and_depth_and_hands, ticks in (
                ((0, 0, 1), 0), ((0, 0, 6), 0), ((7, 7, 1), 7), ((7, 7, 6), 7), ((10, 4, 1), 10), ((10, 4, 2), 5),
                ((11, 4, 2), 6), ((12, 4, 2), 6), ((13, 4, 2), 7), ((12, 1, 6), 2), ((13, 1, 6), 3), ((11, 1, 6), 2),
                ((24, 4, 6), 4), ((25, 4, 6), 5), ((23, 4, 6), 4), ((8, 4, 2), 4), ((9, 4, 2), 5), ((1, 1, 6), 1)):
            self.assertEqual(fewest_ticks(*work_and_depth_and_hands), ticks, work_and_depth_and_hands)

    def test_one_hand_takes_just_as_many_as_there_is_work(self):
        for work_done in range(12):
            for depth in range(work_done + 1):
                self.assertEqual(most_ticks(work_done, depth, 1), work_done)
                self.assertEqual(fewest_ticks(work_done, depth, 1), work_done)

    def test_whole_numbers(self):
        for ask in (most_ticks, fewest_ticks):
            for hands in range(1, 7):
                self.assertIs(type(ask(13, 5, hands)), int)


class Beyond(Crews):
    def test_more_hands(self):
        crew = Crew((both((work(1),), (work(1),)),), (0,), 9)
        self.assertEqual(run(crew, (9,) * 9)[1], ((ONE, None), (OTHER, 0)) + (None,) * 7)

    def test_longer_rows_and_ifs_in_the_place_of_boths(self):
        program = (("if", 1, tuple(note(number) for number in range(20)), ()),)
        crew = Crew(program, (0,), 2)
        run(crew, (0, 0))
        self.assertEqual((crew.notes(), crew.units(), crew.ticks()), (tuple(range(20)), 21, 21))

    def test_rows_without_a_unit_are_over_as_they_are_opened(self):
        for one, other in (((), ()), ((), (note(1),)), ((note(1),), ()), ((work(0),), (note(1), ("again", 2, ())))):
            program = (both(one, other), note(2))
            for hands in (1, 3):
                crew = Crew(program, (0,), hands)
                while not crew.is_over():
                    crew.tick((0,) * hands)
                    self.assertLessEqual(crew.ticks(), 3)
                self.assertEqual((crew.cells(), crew.notes()), alone(program, (0,)))
                self.assertEqual((crew.open_rows(), crew.piles()), (0, ((),) * hands))
        crew = Crew((work(0), ("again", 0, (note(1),))), (0,), 2)
        self.assertEqual((crew.is_over(), crew.open_rows(), crew.having()), (True, 0, (None, None)))

    def test_cells_that_are_not_there(self):
        crew = Crew((("set", 7, 1), ("add", -1, 1), note(("cell", 7)), note(("cell", -1))), (4,), 1)
        run(crew, (0,))
        self.assertEqual((crew.cells(), crew.notes()), ((4,), (0, 0)))


if __name__ == "__main__":
    unittest.main()
