import itertools
import random
import unittest

import model
from joincrew.crews import Crew
from joincrew.papers import is_paper, run
from running import any_turns, programs_with_cells, small_programs
from samples import both, work

TOP, ONE, OTHER = (), (0, 0), (0, 1)
DONE = (TOP, None)

FORK = (both((work(2),), (("note", 7),)), ("note", 8))
FORK_PAPERS = {
    1: ((DONE,), ((ONE, None),), ((ONE, None),), ((OTHER, None),), (DONE,)),
    2: ((DONE, None), ((ONE, None), (OTHER, 0)), ((ONE, None), None), (DONE, None)),
    3: ((DONE, None, None), ((ONE, None), (OTHER, 0), None), ((ONE, None), None, None), (DONE, None, None)),
}

# At its third tick the third of three hands takes from the one pile or from the other.
FOUR = (both((both((work(3),), (work(3),)),), (both((work(3),), (work(3),)),)),)
ONE_ONE, ONE_OTHER, OTHER_ONE, OTHER_OTHER = [side + (0, place) for side in (ONE, OTHER) for place in (0, 1)]
FOUR_BEGIN = ((DONE, None, None), ((ONE, None), (OTHER, 0), None))
FOUR_FROM_0 = FOUR_BEGIN + (
    ((ONE_ONE, None), (OTHER_ONE, None), (ONE_OTHER, 0)),
) + 2 * (
    ((ONE_ONE, None), (OTHER_ONE, None), (ONE_OTHER, None)),
) + 3 * (
    (None, (OTHER_OTHER, None), None),
)
FOUR_FROM_1 = FOUR_BEGIN + (
    ((ONE_ONE, None), (OTHER_ONE, None), (OTHER_OTHER, 1)),
) + 2 * (
    ((ONE_ONE, None), (OTHER_ONE, None), (OTHER_OTHER, None)),
) + 3 * (
    ((ONE_OTHER, None), None, None),
)

# Behind its third tick two rows lie on the pile of hand 0, and hand 1 has none.
TWO_ON_A_PILE = (both((both((both((work(3),), (work(1),)),), (work(1),)),), (work(2),)),)


def crew_paper(crew, turns_of):
    paper = []
    while not crew.is_over():
        paper.append(crew.tick(turns_of(crew.ticks())))
    return tuple(paper)


def turned(thing, turn):
    """All things that come of this one if one thing in it, or itself, is turned; turn tells a list of others."""
    found = list(turn(thing))
    if isinstance(thing, tuple):
        for place, part in enumerate(thing):
            found += [thing[:place] + (other,) + thing[place + 1:] for other in turned(part, turn)]
    return found


class Run(unittest.TestCase):
    def test_the_program_without_steps(self):
        for hands in range(1, 7):
            for seed in (0, 5, 10 ** 30):
                self.assertEqual(run((), (3, 4), hands, seed), ((), (3, 4), ()))

    def test_one_row(self):
        for seed in (0, 1, 9):
            self.assertEqual(run((work(2),), (0,), 1, seed), (((DONE,),) * 2, (0,), ()))
            self.assertEqual(run((("add", 0, 5), ("note", ("cell", 0))), (6,), 2, seed),
                             (((DONE, None),) * 2, (11,), (11,)))
            self.assertEqual(run((("set", 1, 2),), (6, 7), 3, seed), (((DONE, None, None),), (6, 2), ()))

    def test_a_fork(self):
        for seed in (0, 1, 2, 77):
            for hands in (1, 2):
                self.assertEqual(run(FORK, (5,), hands, seed), (FORK_PAPERS[hands], (5,), (7, 8)))

    def test_which_of_two_hands_takes_is_told_by_no_seed(self):
        for seed in range(9):
            self.assertEqual(run(FORK, (5,), 3, seed), (FORK_PAPERS[3], (5,), (7, 8)))

    def test_from_whom_is_told_by_the_seed(self):
        # Hand 2 begins to look, at tick 2, at the rest of seed and 14 and 6, by 3.
        for seed, paper in ((0, FOUR_FROM_0), (1, FOUR_FROM_0), (2, FOUR_FROM_1), (3, FOUR_FROM_0), (5, FOUR_FROM_1)):
            self.assertEqual(run(FOUR, (0,), 3, seed), (paper, (0,), ()), seed)

    def test_great_seeds(self):
        great = 3 * 10 ** 30
        for seed, paper in ((great, FOUR_FROM_0), (great + 1, FOUR_FROM_0), (great + 2, FOUR_FROM_1)):
            self.assertEqual(run(FOUR, (0,), 3, seed), (paper, (0,), ()), seed)

    def test_the_turns_of_each_tick(self):
        unlike = 0
        for program, cells in programs_with_cells(150, False, 41):
            for hands in (1, 2, 3, 5, 6):
                papers = set()
                for seed in (0, 1, 2, 3, 4, 10 ** 20):
                    crew = Crew(program, cells, hands)
                    paper = crew_paper(crew, lambda t: tuple(seed + 7 * t + 3 * h for h in range(hands)))
                    self.assertEqual(run(program, cells, hands, seed), (paper, crew.cells(), crew.notes()))
                    papers.add(paper)
                unlike += len(papers) > 1
        self.assertGreater(unlike, 50)

    def test_the_model_tells_the_same(self):
        for program, cells in programs_with_cells(150, False, 42):
            for hands, seed in ((2, 1), (3, 8), (4, 0), (6, 3)):
                crew = model.Crew(program, cells, hands)
                paper = []
                while () not in crew.over:
                    paper.append(crew.tick([seed + 7 * len(paper) + 3 * hand for hand in range(hands)]))
                self.assertEqual(run(program, cells, hands, seed),
                                 (tuple(paper), tuple(crew.cells), tuple(crew.top.all_notes())))

    def test_more_hands_and_cells_that_are_not_there(self):
        self.assertEqual(run(FORK, (5,), 8, 1)[1:], ((5,), (7, 8)))
        self.assertEqual(len(run(FORK, (5,), 8, 1)[0][0]), 8)
        self.assertEqual(run((("set", 5, 1), ("note", ("cell", 5))), (5,), 1, 1)[1:], ((5,), (0,)))


class Papers(unittest.TestCase):
    def holds(self, program, hands, thing, cells=(0,)):
        self.assertIs(is_paper(program, cells, hands, thing), True, (program, thing))

    def fails(self, program, hands, thing, cells=(0,)):
        self.assertIs(is_paper(program, cells, hands, thing), False, (program, thing))


class IsPaper(Papers):
    def test_papers_by_hand(self):
        for hands in FORK_PAPERS:
            self.holds(FORK, hands, FORK_PAPERS[hands])
        self.holds(FOUR, 3, FOUR_FROM_0)
        self.holds(FOUR, 3, FOUR_FROM_1)

    def test_the_program_without_steps(self):
        for hands in range(1, 7):
            self.holds((), hands, ())
            tick = (DONE,) + (None,) * (hands - 1)
            for thing in (None, [], 0, "", False, ((),), (None,), ((None,) * hands,), (tick,)):
                self.fails((), hands, thing)

    def test_papers_of_run(self):
        for program, cells in programs_with_cells(200, False, 43):
            for hands in range(1, 7):
                for seed in (0, 5):
                    self.holds(program, hands, run(program, cells, hands, seed)[0], cells)

    def test_papers_by_other_turns(self):
        chance = random.Random(44)
        for program, cells in programs_with_cells(200, False, 44):
            for hands in range(1, 7):
                paper = crew_paper(Crew(program, cells, hands), lambda t: any_turns(chance, hands))
                self.holds(program, hands, paper, cells)

    def test_it_is_held_against_the_cells_too(self):
        program = (("if", ("cell", 0), (work(1),), ()),)
        self.holds(program, 1, ((DONE,),), (0,))
        self.fails(program, 1, ((DONE,),), (1,))
        self.holds(program, 1, ((DONE,), (DONE,)), (1,))
        self.fails(program, 1, ((DONE,), (DONE,)), (0,))

    def test_more_hands(self):
        self.holds(FORK, 8, run(FORK, (0,), 8, 3)[0])
        self.fails(FORK, 8, run(FORK, (0,), 7, 3)[0])


class Ticks(Papers):
    """Papers whose ticks are not those of a run."""

    def test_a_tick_left_out(self):
        for program, hands, paper in ((FORK, 2, FORK_PAPERS[2]), (FOUR, 3, FOUR_FROM_0), (FOUR, 3, FOUR_FROM_1)):
            for place in range(len(paper)):
                self.fails(program, hands, paper[:place] + paper[place + 1:])

    def test_a_tick_doubled(self):
        for program, hands, paper in ((FORK, 2, FORK_PAPERS[2]), (FOUR, 3, FOUR_FROM_0), (FOUR, 3, FOUR_FROM_1)):
            for place in range(len(paper)):
                self.fails(program, hands, paper[:place] + paper[place:place + 1] + paper[place:])

    def test_ticks_exchanged(self):
        for program, hands, paper in ((FORK, 2, FORK_PAPERS[2]), (FOUR, 3, FOUR_FROM_0), (FOUR, 3, FOUR_FROM_1)):
            for one, other in itertools.combinations(range(len(paper)), 2):
                if paper[one] != paper[other]:
                    turned_round = list(paper)
                    turned_round[one], turned_round[other] = paper[other], paper[one]
                    self.fails(program, hands, tuple(turned_round))

    def test_one_more_behind_the_end(self):
        for tick in ((DONE, None), (None, None), ((ONE, None), None), (), None, ((TOP, 0), None)):
            self.fails(FORK, 2, FORK_PAPERS[2] + (tick,))

    def test_too_few(self):
        for length in range(len(FORK_PAPERS[2])):
            self.fails(FORK, 2, FORK_PAPERS[2][:length])

    def test_another_number_of_hands_in_a_tick(self):
        for hands in FORK_PAPERS:
            for others in FORK_PAPERS:
                if hands != others:
                    self.fails(FORK, hands, FORK_PAPERS[others])
        for place in range(4):
            paper = FORK_PAPERS[2]
            for tick in (paper[place][:1], paper[place] + (None,), (), paper[place] + paper[place]):
                self.fails(FORK, 2, paper[:place] + (tick,) + paper[place + 1:])


class Hands(Papers):
    """Papers in which a hand did not as it must."""

    def told(self, tick, hand, thing):
        """A paper of two hands in which one is told to have done another thing in one tick."""
        paper = [list(told) for told in FORK_PAPERS[2]]
        paper[tick][hand] = thing
        return tuple(tuple(told) for told in paper)

    def test_as_it_is(self):
        self.holds(FORK, 2, self.told(1, 1, (OTHER, 0)))

    def test_another_row(self):
        for name in (ONE, (), (1, 1), (0, 2), (0,), (0, 1, 0), (0, -1), (-1, 1), (0, 10 ** 30)):
            self.fails(FORK, 2, self.told(1, 1, (name, 0)))
        for name in (OTHER, TOP, (1, 0)):
            self.fails(FORK, 2, self.told(1, 0, (name, None)))

    def test_another_giver(self):
        for giver in (1, 2, -1, -2, 6, 10 ** 30, None, "0", (0,), ()):
            self.fails(FORK, 2, self.told(1, 1, (OTHER, giver)))
        for giver in (1, 2, 3, -3, None):
            paper = FOUR_FROM_0[:2] + (FOUR_FROM_0[2][:2] + ((ONE_OTHER, giver),),) + FOUR_FROM_0[3:]
            self.fails(FOUR, 3, paper)

    def test_a_giver_where_nothing_was_taken(self):
        for giver in (0, 1, 2, -1):
            self.fails(FORK, 2, self.told(0, 0, (TOP, giver)))
            self.fails(FORK, 2, self.told(1, 0, (ONE, giver)))

    def test_none_where_a_hand_had_to_take(self):
        self.fails(FORK, 2, self.told(1, 1, None))
        self.fails(FORK, 2, (FORK_PAPERS[2][0],) + ((((ONE, None), None),) * 2) + (((OTHER, None), None), (DONE, None)))

    def test_none_where_a_hand_had_a_row(self):
        for tick in range(4):
            self.fails(FORK, 2, self.told(tick, 0, None))
            rest = ((None, None),)
            self.fails(FORK, 2, FORK_PAPERS[2][:tick] + rest + FORK_PAPERS[2][tick:])

    def test_a_hand_that_could_take_nothing(self):
        for told in (DONE, (TOP, 0), (OTHER, 0), (OTHER, None), (ONE, 0)):
            for tick in (0, 2, 3):
                self.fails(FORK, 2, self.told(tick, 1, told))

    def test_what_lies_there_longest_must_be_taken(self):
        paper = run(TWO_ON_A_PILE, (0,), 2, 0)[0]
        longest, shortest = (0, 0, 0, 1), (0, 0, 0, 0, 0, 1)
        self.assertEqual(paper[3], (((0, 0, 0, 0, 0, 0), None), (longest, 0)))
        self.holds(TWO_ON_A_PILE, 2, paper)
        self.fails(TWO_ON_A_PILE, 2, paper[:3] + ((paper[3][0], (shortest, 0)),) + paper[4:])
        # Told through to the end as if it had been so.
        change = {longest: shortest, shortest: longest}
        through = tuple(tuple(told and (change.get(told[0], told[0]), told[1]) for told in tick) for tick in paper)
        self.fails(TWO_ON_A_PILE, 2, through)

    def test_a_row_is_not_taken_in_the_tick_in_which_it_is_laid(self):
        self.fails(FORK, 2, self.told(0, 1, (OTHER, 0)))

    def test_hands_exchanged(self):
        self.fails(FORK, 2, tuple(tuple(reversed(tick)) for tick in FORK_PAPERS[2]))
        self.fails(FOUR, 3, FOUR_FROM_0[:2] + tuple((tick[1], tick[0], tick[2]) for tick in FOUR_FROM_0[2:]))


class Kinds(Papers):
    """Things that are no papers by their kinds alone."""

    def test_lists_in_the_place_of_tuples(self):
        for hands in FORK_PAPERS:
            things = turned(FORK_PAPERS[hands], lambda thing: [list(thing)] if isinstance(thing, tuple) else [])
            self.assertGreater(len(things), 10)
            for thing in things:
                self.fails(FORK, hands, thing)

    def test_truths_in_the_place_of_numbers(self):
        for program, hands, paper in ((FORK, 1, FORK_PAPERS[1]), (FORK, 2, FORK_PAPERS[2]), (FOUR, 3, FOUR_FROM_1)):
            things = turned(paper, lambda thing: [bool(thing)] if thing in (0, 1) else [])
            self.assertGreater(len(things), 4)
            for thing in things:
                self.assertEqual(thing, paper)
                self.fails(program, hands, thing)

    def test_any_one_thing_in_it_another(self):
        others = (None, 0, 1, 2, True, False, "", "work", (), [], (0, 0), [0, 0], ((), None), -1, 10 ** 40)
        for program, hands, paper in ((FORK, 2, FORK_PAPERS[2]), (FOUR, 3, FOUR_FROM_0)):
            for thing in turned(paper, lambda thing: [other for other in others if other != thing]):
                self.fails(program, hands, thing)

    def test_things_that_are_no_tuples_of_ticks(self):
        deep = [(), [], None, 0, True, "deep"]
        for turn in range(30):
            deep = [(thing,) for thing in deep[:3]] + [[thing] for thing in deep[3:]] + [(0, 0)]
        flat = [None, True, False, 0, 1, -5, 10 ** 50, "", "paper", [], (), [()], ((),), (((),),), [None], (None,), ("",),
                ((None, None),), (((), None),), ((((), None),),)]
        for thing in flat + deep:
            for hands in (1, 2, 3):
                self.fails(FORK, hands, thing)
                self.fails(FORK, hands, (thing,))
                self.fails(FORK, hands, (thing,) * hands)
                self.fails(FORK, hands, ((thing,) * hands,))
                self.fails(FORK, hands, (((thing, None),) * hands,) * 4)
                self.fails(FORK, hands, (((thing, thing),) * hands,) * 4)
                self.fails(FORK, hands, ((((), thing),) + (None,) * (hands - 1),) if thing is not None else ())


class Model(Papers):
    def forks(self, chance, depth):
        if depth == 0 or chance.random() < 0.2:
            return (work(chance.randint(1, 3)),)
        return (both(self.forks(chance, depth - 1), self.forks(chance, depth - 1)),)

    def test_true_of_just_those_that_there_are(self):
        chance = random.Random(45)
        several = found = 0
        for program, cells in small_programs(40, False, 45, 9) + [(self.forks(chance, 3), (0,)) for turn in range(12)]:
            for hands in (1, 2, 3):
                papers = model.papers_of(program, cells, hands)
                several += len(papers) > 1
                for paper in sorted(papers, key=str)[:20]:
                    self.holds(program, hands, paper, cells)
                    for turn in range(20):
                        thing = self.changed(chance, paper, hands)
                        found += thing in papers
                        self.assertIs(is_paper(program, cells, hands, thing), thing in papers, (program, thing))
        self.assertGreater(several, 3)
        self.assertGreater(found, 10)

    def changed(self, chance, paper, hands):
        """A paper with another thing told of some hand in some tick, such as might be told."""
        names = sorted({told[0] for tick in paper for told in tick if told is not None})
        ticks = [list(tick) for tick in paper]
        for turn in range(chance.randint(1, 2)):
            told = (chance.choice(names), chance.choice((None,) + tuple(range(hands))))
            chance.choice(ticks)[chance.randrange(hands)] = chance.choice((None, told, told))
        return tuple(tuple(tick) for tick in ticks)


if __name__ == "__main__":
    unittest.main()
