"""What holds for all programs and crews, held for many."""

import random
import unittest

import model
from joincrew.alone import alone, measures, race
from joincrew.crews import Crew, fewest_ticks, most_ticks
from running import any_turns, programs_with_cells


def rows_of(step):
    return {"if": step[2:], "again": step[2:], "both": step[1:]}.get(step[0], ())


def forks_written(row):
    """How many boths stand in one another, whether they are done or not."""
    return max([0] + [forks_written(part) + (step[0] == "both") for step in row for part in rows_of(step)])


class Whole(unittest.TestCase):
    def ran(self, program, cells, hands, seed, forks):
        chance = random.Random(seed)
        crew = Crew(program, cells, hands)
        while not crew.is_over():
            crew.tick(any_turns(chance, hands))
            self.assertLessEqual(crew.open_rows(), hands * (2 * forks + 1), program)
        return crew

    def agrees(self, program, cells, hands, seed):
        work, depth, forks = measures(program, cells)
        crew = self.ran(program, cells, hands, seed, forks)
        self.assertEqual((crew.cells(), crew.notes()), alone(program, cells), program)
        self.assertEqual(crew.units(), work, program)
        self.assertLessEqual(fewest_ticks(work, depth, hands), crew.ticks(), program)
        self.assertLessEqual(crew.ticks(), most_ticks(work, depth, hands), program)

    def test_programs_made_without_races(self):
        for program, cells in programs_with_cells(250, True, 31):
            self.assertIsNone(race(program, cells))
            for hands in range(1, 7):
                self.agrees(program, cells, hands, hands)

    def test_programs_in_which_no_race_is_told(self):
        some = [pair for pair in programs_with_cells(900, False, 32) if race(*pair) is None and measures(*pair)[2] > 0]
        self.assertGreater(len(some), 30)
        for program, cells in some:
            for hands in range(1, 7):
                for seed in (1, 2):
                    self.agrees(program, cells, hands, seed)

    def test_one_hand_and_every_program(self):
        for program, cells in programs_with_cells(300, False, 33):
            self.agrees(program, cells, 1, 1)

    def test_where_runs_end_unlike_a_race_is_told(self):
        unlike = 0
        for program, cells in programs_with_cells(300, False, 34):
            ends = {alone(program, cells) + (measures(program, cells)[0],)}
            for hands in (2, 3, 5):
                crew = self.ran(program, cells, hands, hands, forks_written(program))
                ends.add((crew.cells(), crew.notes(), crew.units()))
            if len(ends) > 1:
                unlike += 1
                self.assertIsNotNone(race(program, cells), program)
        self.assertGreater(unlike, 30)

    def test_open_rows_come_up_to_their_bound(self):
        row = (("work", 1),)
        for depth in range(1, 7):
            row = (("both", row, row),)
            crew = Crew(row, (0,), 1)
            most = 0
            while not crew.is_over():
                crew.tick((0,))
                most = max(most, crew.open_rows())
            self.assertEqual(most, 2 * depth + 1)
            for hands in range(1, 7):
                self.agrees(row, (0,), hands, depth)


class Model(unittest.TestCase):
    def test_each_tick_is_as_the_model_tells(self):
        for parted in (False, True):
            for program, cells in programs_with_cells(120, parted, 35):
                for hands in (1, 2, 3, 4, 6):
                    self.go_alike(program, cells, hands)

    def go_alike(self, program, cells, hands):
        chance = random.Random(hands)
        crew, other = Crew(program, cells, hands), model.Crew(program, cells, hands)
        units = ticks = 0
        while True:
            self.assertEqual((crew.is_over(), crew.cells(), crew.notes(), crew.open_rows(), crew.piles(),
                              crew.having()), other.told(), program)
            self.assertEqual((crew.ticks(), crew.units()), (ticks, units))
            if crew.is_over():
                break
            turns = any_turns(chance, hands)
            told = crew.tick(turns)
            self.assertEqual(told, other.tick(turns), program)
            ticks += 1
            units += len([part for part in told if part is not None])


if __name__ == "__main__":
    unittest.main()
