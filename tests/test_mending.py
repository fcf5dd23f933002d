import itertools
import random
import unittest

from joincrew.alone import alone, measures, race
from joincrew.mending import count_boths, mended, without_boths
from joincrew.orders import outcomes
from joincrew.turning import in_a_row
from joincrew.writing import written
from running import programs_with_cells, racing_programs
from samples import PLAIN_STEPS, both, in_its_place, is_plain, programs

A, B, C, D = (("note", 1),), (("set", 1, 2),), (("add", 0, ("cell", 1)),), (("work", 4),)
SET, OTHER_SET, ADD, READ = (("set", 0, 1),), (("set", 1, 1),), (("add", 0, 1),), (("note", ("cell", 0)),)
UNIT = (("work", 1),)


def words_of(row):
    """The words of a row's text, also of a row that is longer than programs may be."""
    words = ["{"]
    for step in row:
        words += [] if len(words) == 1 else [";"]
        if step[0] == "both":
            words += ["both"] + words_of(step[1]) + words_of(step[2])
        elif step[0] == "again":
            words += ["again", str(step[1])] + words_of(step[2])
        elif step[0] == "if":
            asked = written((("note", step[1]),)).split()[2:-1]
            words += ["if"] + asked + words_of(step[2]) + words_of(step[3])
        else:
            words += written((step,)).split()[1:-1]
    return words + ["}"]


def row_end(words, begin):
    """The place behind the row that begins here."""
    depth = 0
    for place in range(begin, len(words)):
        depth += {"{": 1, "}": -1}.get(words[place], 0)
        if depth == 0:
            return place + 1


def words_without(words, numbers):
    """The words of a text, with if in the place of the boths that are numbered so."""
    places = [place for place, word in enumerate(words) if word == "both"]
    for number in reversed(numbers):
        begin = places[number]
        middle = row_end(words, begin + 1)
        end = row_end(words, middle)
        joined = words[begin + 1:middle - 1] + [";"] + words[middle + 1:end]
        words = words[:begin] + ["if", "1"] + joined + ["{", "}"] + words[end:]
    return words


def any_numbers(chance, count):
    return tuple(number for number in range(count) if chance.random() < 0.5)


class Count(unittest.TestCase):
    def test_by_hand(self):
        for count, program in (
            (0, ()),
            (0, A + B + C + D),
            (0, (("if", 1, A, B), ("again", 2, C))),
            (1, (both(A, B),)),
            (2, (both(A, B),) * 2),
            (2, (both((both(A, B),), C),)),
            (2, (both(A, (both(B, C),)),)),
            (3, (both((both(A, B),), (both(C, D),)),)),
            (1, (("if", 0, (both(A, B),), ()),)),
            (2, (("if", 0, (both(A, B),), (both(C, D),)),)),
            (1, (("again", 4, (both(A, B),)),)),
            (6, (both(A, B),) * 6),
        ):
            self.assertEqual(count_boths(program), count, program)

    def test_as_many_as_there_are_words(self):
        for program in programs(600, 81):
            self.assertEqual(count_boths(program), written(program).split().count("both"))


class Without(unittest.TestCase):
    def gives(self, program, numbers, told):
        self.assertEqual(without_boths(program, numbers), told)

    def test_the_program_without_steps(self):
        self.gives((), (), ())

    def test_other_steps_stay(self):
        for step in PLAIN_STEPS + (("if", ("cell", 0), A, B), ("if", 1, (), ()), ("again", 3, A)):
            self.gives((step,), (), (step,))
            self.gives((step, both(A, B), step), (0,), (step, in_its_place(A + B), step))

    def test_one_behind_the_other(self):
        program = (both(A, B), both(C, D), both(B, A))
        self.gives(program, (), program)
        self.gives(program, (0,), (in_its_place(A + B), both(C, D), both(B, A)))
        self.gives(program, (1,), (both(A, B), in_its_place(C + D), both(B, A)))
        self.gives(program, (2,), (both(A, B), both(C, D), in_its_place(B + A)))
        self.gives(program, (0, 2), (in_its_place(A + B), both(C, D), in_its_place(B + A)))
        self.gives(program, (0, 1, 2), (in_its_place(A + B), in_its_place(C + D), in_its_place(B + A)))

    def test_boths_within_boths(self):
        # The outer one's word stands ahead of those within it, its one row's ahead of its other row's.
        program = (both((both(A, B),), (both(C, D),)), both(D, A))
        self.gives(program, (0,), (in_its_place((both(A, B), both(C, D))), both(D, A)))
        self.gives(program, (1,), (both((in_its_place(A + B),), (both(C, D),)), both(D, A)))
        self.gives(program, (2,), (both((both(A, B),), (in_its_place(C + D),)), both(D, A)))
        self.gives(program, (3,), (both((both(A, B),), (both(C, D),)), in_its_place(D + A)))
        self.gives(program, (0, 1), (in_its_place((in_its_place(A + B), both(C, D))), both(D, A)))
        self.gives(program, (1, 2, 3), (both((in_its_place(A + B),), (in_its_place(C + D),)), in_its_place(D + A)))

    def test_boths_within_if_and_again(self):
        program = (("if", 0, (both(A, B),), (both(B, C),)), ("again", 2, (both(C, D), both(D, A))))
        self.gives(program, (0,), (("if", 0, (in_its_place(A + B),), (both(B, C),)), program[1]))
        self.gives(program, (1,), (("if", 0, (both(A, B),), (in_its_place(B + C),)), program[1]))
        self.gives(program, (2,), (program[0], ("again", 2, (in_its_place(C + D), both(D, A)))))
        self.gives(program, (3,), (program[0], ("again", 2, (both(C, D), in_its_place(D + A)))))

    def test_more_than_six_steps(self):
        self.gives((both(A * 6, B * 6),), (0,), (in_its_place(A * 6 + B * 6),))

    def test_none_and_all_of_many_programs(self):
        for program in programs(600, 82):
            self.gives(program, (), program)
            self.gives(program, tuple(range(count_boths(program))), in_a_row(program))

    def test_some_of_many_programs(self):
        chance = random.Random(83)
        for program in programs(400, 83):
            self.assertEqual(words_of(program), written(program).split())
            numbers = any_numbers(chance, count_boths(program))
            told = without_boths(program, numbers)
            self.assertEqual(words_of(told), words_without(words_of(program), numbers))
            self.assertEqual(count_boths(told), count_boths(program) - len(numbers))

    def test_one_behind_the_other_or_all_at_once(self):
        chance = random.Random(84)
        for program in programs(300, 84):
            numbers = any_numbers(chance, count_boths(program))
            told = program
            for number in reversed(numbers):
                told = without_boths(told, (number,))
            self.gives(program, numbers, told)

    def test_done_alone_the_same_comes(self):
        chance = random.Random(85)
        for program, cells in programs_with_cells(200, False, 85):
            told = without_boths(program, any_numbers(chance, count_boths(program)))
            self.assertEqual(alone(told, cells), alone(program, cells))
            self.assertEqual(measures(told, cells)[0], measures(program, cells)[0])

    def test_lists_stand_nowhere(self):
        chance = random.Random(86)
        for program in programs(100, 86):
            self.assertTrue(is_plain(without_boths(program, any_numbers(chance, count_boths(program)))))


class Mended(unittest.TestCase):
    def mends(self, program, numbers, cells=(0, 0)):
        self.assertEqual(mended(program, cells), numbers, program)
        self.holds(program, cells)

    def holds(self, program, cells):
        numbers = mended(program, cells)
        self.assertIs(type(numbers), tuple)
        self.assertEqual(list(numbers), sorted(set(numbers)))
        self.assertTrue(all(type(number) is int and 0 <= number < count_boths(program) for number in numbers))
        self.assertTrue(self.is_mended_by(program, cells, numbers), (program, numbers))
        return numbers

    def is_mended_by(self, program, cells, numbers):
        less = [numbers[:place] + numbers[place + 1:] for place in range(len(numbers))]
        return (race(without_boths(program, numbers), cells) is None
                and all(race(without_boths(program, others), cells) is not None for others in less))


class MendedByHand(Mended):
    def test_without_a_race(self):
        for program in ((), A, SET + ADD + READ, (both(SET, OTHER_SET),), (both(ADD, ADD), both(READ, READ)),
                        (both(SET, UNIT), both(UNIT, SET)), (("again", 3, (both(SET, UNIT),)),)):
            self.mends(program, ())

    def test_one_fork(self):
        for one, other in itertools.product((SET, ADD, READ), repeat=2):
            numbers = () if one == other != SET else (0,)
            self.mends((both(one, other),), numbers)
            self.mends((both(UNIT, UNIT), both(one, other), both(UNIT, UNIT)), (1,) if numbers else ())

    def test_forks_one_behind_the_other(self):
        self.mends((both(SET, SET), both(ADD, ADD), both(READ, ADD)), (0, 2))

    def test_the_inner_or_the_outer_one(self):
        self.mends((both((both(SET, SET),), OTHER_SET),), (1,))
        self.mends((both(OTHER_SET, (both(SET, SET),)),), (1,))
        self.mends((both((both(SET, OTHER_SET),), SET),), (0,))
        self.mends((both((both(SET, OTHER_SET),), OTHER_SET),), (0,))
        self.mends((both((both(UNIT, READ),), (both(SET, UNIT),)),), (0,))
        self.mends((both((both(SET, SET),), SET),), (0, 1))
        self.mends((both((both(SET, READ),), (both(UNIT, SET),)),), (0, 1))
        self.mends((both((both(SET, READ),), (both(READ, SET),)),), (0, 1, 2))
        self.mends((both((both(ADD, READ),), (both(ADD, ADD),)),), (0, 1))

    def test_forks_that_are_not_done(self):
        fork = (both(SET, SET),)
        self.mends((("if", 0, fork, (both(READ, SET),)),), (1,))
        self.mends((("if", 1, fork, (both(READ, SET),)),), (0,))
        self.mends((("if", ("cell", 1), fork, ()),), (), (0, 0))
        self.mends((("if", ("cell", 1), fork, ()),), (0,), (0, 1))

    def test_forks_in_again(self):
        # In the second round alone do its rows race.
        late = (both((("if", ("cell", 1), SET, ()),), READ), ("add", 1, 1))
        self.mends((("again", 1, late),), ())
        self.mends((("again", 2, late),), (0,))
        self.mends((both(UNIT, UNIT), ("again", 4, late + (both(OTHER_SET, OTHER_SET),))), (1, 2))

    def test_cells_that_are_not_there(self):
        self.mends((both((("set", 5, 1),), (("set", 5, 2),)),), (0,), (0,))

    def test_all_the_way_down(self):
        row = SET
        for depth in range(6):
            row = (both(row, SET),)
            self.mends(row, tuple(range(depth + 1)))


class MendedMany(Mended):
    def test_programs_without_a_race(self):
        for program, cells in programs_with_cells(300, True, 87):
            self.assertEqual(mended(program, cells), ())

    def test_programs_of_all_sorts(self):
        found = {True: 0, False: 0}
        for program, cells in programs_with_cells(400, False, 88) + racing_programs(300, 88):
            numbers = self.holds(program, cells)
            self.assertEqual(numbers == (), race(program, cells) is None)
            self.assertEqual(mended(program, cells), numbers)
            found[len(numbers) not in (0, count_boths(program))] += 1
        self.assertGreater(min(found.values()), 30)

    def test_no_other_numbers_mend_it(self):
        # A race is parted by one fork alone, so no fork can go in the place of another one.
        for program, cells in racing_programs(150, 89):
            numbers = range(count_boths(program))
            ways = [way for length in range(len(numbers) + 1) for way in itertools.combinations(numbers, length)
                    if self.is_mended_by(program, cells, way)]
            self.assertEqual(ways, [mended(program, cells)])

    def test_when_it_is_mended_one_thing_alone_comes(self):
        several = 0
        for program, cells in racing_programs(150, 90):
            whole = without_boths(program, mended(program, cells))
            self.assertEqual(outcomes(whole, cells), (alone(program, cells)[0],))
            several += len(outcomes(program, cells)) > 1
        self.assertGreater(several, 50)

    def test_mended_it_needs_no_mending(self):
        for program, cells in racing_programs(150, 91):
            self.assertEqual(mended(without_boths(program, mended(program, cells)), cells), ())


if __name__ == "__main__":
    unittest.main()
