import unittest

from joincrew.reading import read
from joincrew.writing import written
from samples import LEAVES, PLAIN_STEPS, SUM_PLACES, SUM_WORDS, WRAPPERS, deep_rows, deep_sum, full_sum, programs

WRITINGS = (
    ((), "{ }"),
    ((("set", 0, 0),), "{ set 0 0 }"),
    ((("set", 5, 999),), "{ set 5 999 }"),
    ((("add", 3, ("cell", 4)),), "{ add 3 c4 }"),
    ((("note", 10),), "{ note 10 }"),
    ((("note", ("cell", 0)),), "{ note c0 }"),
    ((("note", ("plus", 1, 2)),), "{ note plus 1 2 }"),
    ((("note", ("less", ("cell", 5), 2)),), "{ note less c5 2 }"),
    ((("note", ("times", 0, ("cell", 1))),), "{ note times 0 c1 }"),
    ((("note", ("under", ("plus", 1, 2), ("less", 3, ("times", 4, 5)))),),
     "{ note under plus 1 2 less 3 times 4 5 }"),
    ((("work", 1),), "{ work 1 }"),
    ((("work", 9),), "{ work 9 }"),
    ((("if", 0, (), ()),), "{ if 0 { } { } }"),
    ((("if", ("under", ("cell", 0), 5), (("note", 1),), ()),), "{ if under c0 5 { note 1 } { } }"),
    ((("if", 7, (), (("note", 1), ("note", 2))),), "{ if 7 { } { note 1 ; note 2 } }"),
    ((("again", 4, (("work", 2),)),), "{ again 4 { work 2 } }"),
    ((("both", (("work", 1),), (("work", 2),)),), "{ both { work 1 } { work 2 } }"),
    ((("set", 0, 1), ("add", 0, 2), ("note", ("cell", 0))), "{ set 0 1 ; add 0 2 ; note c0 }"),
    ((("work", 1),) * 6, "{ work 1 ; work 1 ; work 1 ; work 1 ; work 1 ; work 1 }"),
    ((("both", (("again", 1, (("if", ("cell", 2), (), (("work", 3),)),)), ("note", 4)), (("both", (("set", 0, 5),),
       (("add", 1, 6),)),)), ("work", 8)),
     "{ both { again 1 { if c2 { } { work 3 } } ; note 4 } { both { set 0 5 } { add 1 6 } } ; work 8 }"),
    (deep_rows(6), "{ both " * 6 + "{ work 1 }" + " { work 1 } }" * 6),
    ((("note", deep_sum(4)),), "{ note plus plus plus plus c1 2 2 2 2 }"),
    ((("note", deep_sum(4, "less", 2)),), "{ note less 2 less 2 less 2 less 2 c1 }"),
)


class Writing(unittest.TestCase):
    def test_each_kind_of_step_and_sum_and_row(self):
        for program, text in WRITINGS:
            self.assertEqual(written(program), text)

    def test_the_writing_is_a_text_and_the_same_again(self):
        for program, text in WRITINGS:
            self.assertIs(type(written(program)), str)
            self.assertEqual(written(program), written(program))

    def test_what_is_somewhat_beyond_is_written_as_well(self):
        self.assertEqual(written((("work", 1),) * 7), "{ " + "work 1 ; " * 6 + "work 1 }")
        self.assertEqual(written((("set", 6, 1000), ("again", 5, ()))), "{ set 6 1000 ; again 5 { } }")
        self.assertEqual(written(deep_rows(8, "again")), "{ again 2 " * 8 + "{ work 1 }" + " }" * 8)
        self.assertEqual(written((("note", deep_sum(6)),)), "{ note " + "plus " * 6 + "c1" + " 2" * 6 + " }")

    def test_programs_that_are_unlike_have_unlike_writings(self):
        seen = {}
        for program in programs(400, 3):
            self.assertEqual(seen.setdefault(written(program), program), program)


class ReadOfWritten(unittest.TestCase):
    def comes_back(self, program):
        self.assertEqual(read(written(program)), program)

    def test_each_kind_of_step_and_sum_and_row(self):
        for program, text in WRITINGS:
            self.assertEqual(read(text), program)
            self.comes_back(program)

    def test_plain_steps_wherever_they_lie(self):
        for wrapper in WRAPPERS:
            for step in PLAIN_STEPS:
                self.comes_back(wrapper((step,)))
            self.comes_back(wrapper(PLAIN_STEPS[:6]))

    def test_sums_wherever_they_stand(self):
        for place in SUM_PLACES:
            for word in SUM_WORDS:
                for one in LEAVES:
                    for other in LEAVES:
                        self.comes_back((place((word, one, other)),))
        self.comes_back((("if", full_sum(4), (), ()),))

    def test_every_number_in_its_place(self):
        for number in range(1000):
            self.comes_back((("note", number),))
        for k in range(6):
            self.comes_back((("set", k, 0), ("add", k, 0), ("note", ("cell", k))))
        for n in range(1, 10):
            self.comes_back((("work", n),))
        for n in range(1, 5):
            self.comes_back((("again", n, (("work", 1),)),))

    def test_rows_six_deep(self):
        for word in ("if", "again", "both"):
            for side in (1, 2):
                for depth in range(7):
                    self.comes_back(deep_rows(depth, word, side))
        self.comes_back(deep_rows(6, "if", 1, ()))
        self.comes_back(deep_rows(6, "if", 2, (("work", 1),) * 6))

    def test_programs_of_all_sorts(self):
        for program in programs(300, 2):
            self.comes_back(program)


if __name__ == "__main__":
    unittest.main()
