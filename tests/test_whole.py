"""What holds for all programs and crews, held for many."""

import random
import unittest

import model
from joincrew.alone import alone, measures, race, touched
from joincrew.crews import Crew, fewest_ticks, most_ticks
from joincrew.mending import count_boths, mended, without_boths
from joincrew.orders import done_in, order_to, outcomes
from joincrew.papers import is_paper, run
from joincrew.reading import read
from joincrew.turning import exchanged, in_a_row, with_hands
from joincrew.writing import written
from running import any_turns, programs_with_cells, racing_programs, small_programs
from samples import is_plain, programs


def rows_of(step):
    return {"if": step[2:], "again": step[2:], "both": step[1:]}.get(step[0], ())


def forks_written(row):
    """How many boths stand in one another, whether they are done or not."""
    return max([0] + [forks_written(part) + (step[0] == "both") for step in row for part in rows_of(step)])


class Whole(unittest.TestCase):
    def ran(self, program, cells, hands, seed, forks):
        chance = random.Random(seed)
        crew = Crew(program, cells, hands)
        while not crew.is_over():
            crew.tick(any_turns(chance, hands))
            self.assertLessEqual(crew.open_rows(), hands * (2 * forks + 1), program)
        return crew

    def agrees(self, program, cells, hands, seed):
        work, depth, forks = measures(program, cells)
        crew = self.ran(program, cells, hands, seed, forks)
        self.assertEqual((crew.cells(), crew.notes()), alone(program, cells), program)
        self.assertEqual(crew.units(), work, program)
        self.assertLessEqual(fewest_ticks(work, depth, hands), crew.ticks(), program)
        self.assertLessEqual(crew.ticks(), most_ticks(work, depth, hands), program)

    def test_programs_made_without_races(self):
        for program, cells in programs_with_cells(250, True, 31):
            self.assertIsNone(race(program, cells))
            for hands in range(1, 7):
                self.agrees(program, cells, hands, hands)

    def test_programs_in_which_no_race_is_told(self):
        some = [pair for pair in programs_with_cells(900, False, 32) if race(*pair) is None and measures(*pair)[2] > 0]
        self.assertGreater(len(some), 30)
        for program, cells in some:
            for hands in range(1, 7):
                for seed in (1, 2):
                    self.agrees(program, cells, hands, seed)

    def test_one_hand_and_every_program(self):
        for program, cells in programs_with_cells(300, False, 33):
            self.agrees(program, cells, 1, 1)

    def test_where_runs_end_unlike_a_race_is_told(self):
        unlike = 0
        for program, cells in programs_with_cells(300, False, 34):
            ends = {alone(program, cells) + (measures(program, cells)[0],)}
            for hands in (2, 3, 5):
                crew = self.ran(program, cells, hands, hands, forks_written(program))
                ends.add((crew.cells(), crew.notes(), crew.units()))
            if len(ends) > 1:
                unlike += 1
                self.assertIsNotNone(race(program, cells), program)
        self.assertGreater(unlike, 30)

    def test_open_rows_come_up_to_their_bound(self):
        row = (("work", 1),)
        for depth in range(1, 7):
            row = (("both", row, row),)
            crew = Crew(row, (0,), 1)
            most = 0
            while not crew.is_over():
                crew.tick((0,))
                most = max(most, crew.open_rows())
            self.assertEqual(most, 2 * depth + 1)
            for hands in range(1, 7):
                self.agrees(row, (0,), hands, depth)


class Papers(unittest.TestCase):
    def test_the_run_is_the_one_that_the_paper_tells(self):
        chance = random.Random(36)
        for program, cells in programs_with_cells(150, False, 36) + racing_programs(100, 36):
            for hands in range(1, 7):
                crew = Crew(program, cells, hands)
                paper = []
                while not crew.is_over():
                    paper.append(crew.tick(any_turns(chance, hands)))
                self.assertIs(is_paper(program, cells, hands, tuple(paper)), True)
                order = tuple(told[0] for tick in paper for told in tick if told is not None)
                self.assertEqual(done_in(program, cells, order), (crew.cells(), crew.notes()))

    def test_papers_are_parted_by_what_was_taken_from_whom(self):
        for program, cells in programs_with_cells(100, False, 37):
            for hands in (2, 3, 5):
                papers = [run(program, cells, hands, seed)[0] for seed in range(6)]
                for paper in papers:
                    self.assertIs(is_paper(program, cells, hands, paper), True)
                    self.assertIs(is_paper(program, cells, hands + 1, paper), paper == ())
                    self.assertIs(is_paper(program, cells, hands, paper[1:]), paper == ())


class AllThatMayCome(unittest.TestCase):
    def test_what_runs_end_with_comes_by_a_told_order(self):
        several = 0
        for program, cells in racing_programs(150, 38) + small_programs(100, True, 38):
            told = outcomes(program, cells)
            several += len(told) > 1
            for hands, seed in ((1, 0), (2, 1), (3, 2), (6, 5)):
                end = run(program, cells, hands, seed)[1]
                self.assertIn(end, told)
                self.assertEqual(done_in(program, cells, order_to(program, cells, end))[0], end)
            if race(program, cells) is None:
                self.assertEqual(len(told), 1)
        self.assertGreater(several, 50)

    def test_mended_programs_have_no_race_and_each_fork_would_bring_one_back(self):
        for program, cells in racing_programs(150, 39) + programs_with_cells(150, False, 39):
            numbers = mended(program, cells)
            whole = without_boths(program, numbers)
            self.assertIsNone(race(whole, cells))
            for number in numbers:
                others = tuple(other for other in numbers if other != number)
                self.assertIsNotNone(race(without_boths(program, others), cells))
            for hands in (2, 4):
                self.assertEqual(run(whole, cells, hands, hands)[1:], alone(program, cells))


class Turned(unittest.TestCase):
    def test_nothing_of_the_answers_changes(self):
        for program, cells in programs_with_cells(150, True, 40):
            cells_behind, notes = alone(program, cells)
            for hands in (1, 2, 3, 6):
                told = run(in_a_row(program), cells, hands, hands)
                self.assertEqual(told[1:], (cells_behind, notes))
                told = run(exchanged(program), cells, hands, hands)
                self.assertEqual((told[1], sorted(told[2])), (cells_behind, sorted(notes)))
                self.assertEqual(told[1:], alone(exchanged(program), cells))

    def test_outcomes_stay(self):
        for program, cells in small_programs(150, True, 40):
            told = outcomes(program, cells)
            self.assertEqual(outcomes(exchanged(program), cells), told)
            self.assertEqual(outcomes(in_a_row(program), cells), told)


class Told(unittest.TestCase):
    def asked(self, program, cells):
        goal = alone(program, cells)[0]
        paper = run(program, cells, 3, 5)[0]
        numbers = tuple(range(0, count_boths(program), 2))
        order = order_to(program, cells, goal)
        return (alone(program, cells), measures(program, cells), touched(program, cells), race(program, cells),
                run(program, cells, 3, 5), is_paper(program, cells, 3, paper), exchanged(program), in_a_row(program),
                with_hands(program, cells, 5), done_in(program, cells, order), done_in(program, cells, ((5, 5),)),
                outcomes(program, cells), order, order_to(program, cells, (5,) * 7), count_boths(program),
                without_boths(program, numbers), mended(program, cells))

    def test_asked_the_same_again_the_same_is_told_and_nothing_is_changed(self):
        for program, cells in racing_programs(60, 46) + small_programs(60, True, 46):
            kept = repr((program, cells))
            told = self.asked(program, cells)
            self.assertTrue(is_plain(told))
            self.assertEqual(repr(self.asked(program, cells)), repr(told))
            self.assertEqual(repr((program, cells)), kept)

    def test_programs_that_are_equal_are_told_alike(self):
        for program, cells in racing_programs(60, 47):
            self.assertEqual(self.asked(read(written(program)), tuple(list(cells))), self.asked(program, cells))

    def test_a_program_and_its_text(self):
        for program in programs(200, 48):
            self.assertEqual(read(written(program)), program)
            self.assertEqual(read(written(exchanged(program))), exchanged(program))


class Model(unittest.TestCase):
    def test_each_tick_is_as_the_model_tells(self):
        for parted in (False, True):
            for program, cells in programs_with_cells(120, parted, 35):
                for hands in (1, 2, 3, 4, 6):
                    self.go_alike(program, cells, hands)

    def go_alike(self, program, cells, hands):
        chance = random.Random(hands)
        crew, other = Crew(program, cells, hands), model.Crew(program, cells, hands)
        units = ticks = 0
        while True:
            self.assertEqual((crew.is_over(), crew.cells(), crew.notes(), crew.open_rows(), crew.piles(),
                              crew.having()), other.told(), program)
            self.assertEqual((crew.ticks(), crew.units()), (ticks, units))
            if crew.is_over():
                break
            turns = any_turns(chance, hands)
            told = crew.tick(turns)
            self.assertEqual(told, other.tick(turns), program)
            ticks += 1
            units += len([part for part in told if part is not None])


if __name__ == "__main__":
    unittest.main()
