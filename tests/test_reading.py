import itertools
import random
import unittest

from joincrew.errors import CrewError, NoText, NoTick
from joincrew.reading import read
from joincrew.things import is_program
from joincrew.writing import written
from samples import deep_rows, deep_sum, programs

# Every word of a writing, and some that stand in none.
WORDS = ("{", "}", ";", "set", "add", "note", "work", "if", "again", "both", "plus", "less", "times", "under", "cell",
         "0", "1", "4", "5", "6", "9", "10", "999", "1000", "c0", "c5", "c6", "c", "", "00", "-1", "+1", "x", "{}")

TEXT = ("{ set 0 plus 1 c2 ; add 5 less c0 times 3 4 ; note under c1 999 ; "
        "if c3 { work 9 } { } ; again 4 { note 0 ; work 1 } ; both { set 1 2 } { both { work 2 } { note 7 } } }")

# Texts in which each number stands at another place, with the numbers that it may be.
NUMBER_PLACES = (
    ("{ note %s }", 0, 999),
    ("{ set 0 %s }", 0, 999),
    ("{ add 0 plus 1 %s }", 0, 999),
    ("{ if %s { } { } }", 0, 999),
    ("{ set %s 1 }", 0, 5),
    ("{ add %s c1 }", 0, 5),
    ("{ note c%s }", 0, 5),
    ("{ note less c%s 1 }", 0, 5),
    ("{ work %s }", 1, 9),
    ("{ both { work 1 } { work %s } }", 1, 9),
    ("{ again %s { work 1 } }", 1, 4),
)


class Reading(unittest.TestCase):
    def is_refused(self, text):
        try:
            told = read(text)
        except NoText:
            return
        self.fail(f"{text!r:.300} was read as {told!r:.300}")

    def is_exact(self, text):
        """Either a text is refused, or it is the writing of what is told."""
        try:
            told = read(text)
        except NoText:
            return False
        self.assertTrue(is_program(told), text)
        self.assertEqual(written(told), text)
        return True


class Told(Reading):
    def test_a_program_is_told_in_tuples(self):
        self.assertEqual(read(TEXT), (
            ("set", 0, ("plus", 1, ("cell", 2))),
            ("add", 5, ("less", ("cell", 0), ("times", 3, 4))),
            ("note", ("under", ("cell", 1), 999)),
            ("if", ("cell", 3), (("work", 9),), ()),
            ("again", 4, (("note", 0), ("work", 1))),
            ("both", (("set", 1, 2),), (("both", (("work", 2),), (("note", 7),)),)),
        ))
        self.assertEqual(read(TEXT), read(TEXT))

    def test_the_empty_row(self):
        self.assertEqual(read("{ }"), ())

    def test_the_numbers_at_the_edges(self):
        for place, least, greatest in NUMBER_PLACES:
            for number in (least, least + 1, greatest - 1, greatest):
                self.assertTrue(self.is_exact(place % number), place % number)


class Refused(Reading):
    def test_words_left_out(self):
        words = TEXT.split(" ")
        for place in range(len(words)):
            self.is_refused(" ".join(words[:place] + words[place + 1:]))

    def test_texts_cut_short(self):
        for length in range(len(TEXT)):
            self.is_refused(TEXT[:length])
            self.is_refused(TEXT[length + 1:])

    def test_words_doubled(self):
        words = TEXT.split(" ")
        for place in range(len(words)):
            self.is_refused(" ".join(words[:place + 1] + words[place:]))

    def test_another_word_in_the_place_of_one(self):
        words = TEXT.split(" ")
        for place in range(len(words)):
            for word in WORDS:
                self.is_exact(" ".join(words[:place] + [word] + words[place + 1:]))
            for word in ("", "x", "cell", "{}", "-1", "1000", "c6", "c", "SET", "};"):
                self.is_refused(" ".join(words[:place] + [word] + words[place + 1:]))

    def test_a_word_put_in(self):
        words = TEXT.split(" ")
        for place in range(len(words) + 1):
            for word in WORDS:
                self.is_refused(" ".join(words[:place] + [word] + words[place:]))

    def test_words_exchanged(self):
        words = TEXT.split(" ")
        for place in range(len(words) - 1):
            self.is_exact(" ".join(words[:place] + [words[place + 1], words[place]] + words[place + 2:]))

    def test_a_blank_too_many(self):
        for text in (TEXT, "{ }", "{ work 1 }", "{ if 0 { } { } }"):
            for place in [0, len(text)] + [k for k, sign in enumerate(text) if sign == " "]:
                self.is_refused(text[:place] + " " + text[place:])
                self.is_refused(text[:place] + "  " + text[place:])
            self.is_refused(" " + text + " ")

    def test_no_blank_where_one_must_be(self):
        for text in (TEXT, "{ }", "{ work 1 }", "{ note plus 1 2 }", "{ if 0 { } { } }"):
            for place in [k for k, sign in enumerate(text) if sign == " "]:
                self.is_refused(text[:place] + text[place + 1:])

    def test_other_white_signs_are_no_blanks(self):
        for text in ("{\tnote 1 }", "{ note\n1 }", "{ note 1 }\n", "\n{ note 1 }", "{\n}", "{ note 1\t}"):
            self.is_refused(text)

    def test_numbers_beyond(self):
        for place, least, greatest in NUMBER_PLACES:
            for number in (least - 1, greatest + 1, greatest + 2, -5, 1000, 1001, 10 ** 9, 10 ** 800):
                self.is_refused(place % number)
            self.is_refused(place % ("9" * 5000))
            self.is_refused(place % ("0" * 5000))

    def test_numbers_with_a_sign_or_a_nought_ahead_or_other_signs(self):
        for place, least, greatest in NUMBER_PLACES:
            for number in (least, 1, greatest):
                for form in ("+%s", "-%s", "0%s", "00%s", "%s.", "%s.0", "_%s", "%s_", "0x%s", "%se0", "'%s'", "(%s)",
                             "--%s", "%s-", "%sc", "c%sc", "cc%s"):
                    self.is_refused(place % (form % number))
            for word in ("", "-", "+", "-0", "00", "000", "0_1", "1_0", "one", "c", "None", "True", "1,"):
                self.is_refused(place % word)

    def test_cells_are_written_as_one_word(self):
        for text in ("{ note cell 0 }", "{ note c 0 }", "{ note C0 }", "{ note c }", "{ note c-1 }", "{ note c00 }",
                     "{ note cc0 }", "{ note 0c }", "{ note ccell }", "{ set c0 1 }", "{ work c1 }",
                     "{ again c1 { work 1 } }", "{ note c+0 }", "{ note c6 }"):
            self.is_refused(text)

    def test_texts_of_other_kinds(self):
        for text in ("", " ", "  ", "{", "}", ";", "} {", "{}", "{ ; }", "; { }", "{ } ;", "work 1", "set 0 0", "0", "c0",
                     "plus 1 2", "{ 1 }", "{ c0 }", "{ plus 1 2 }", "{ { } }", "{ { work 1 } }", "( )", "[ ]", "()",
                     "(('work', 1),)", "{ WORK 1 }", "{ Work 1 }", "{ work 1 ; }", "{ ; work 1 }",
                     "{ work 1 ; ; work 1 }", "{ work 1 , work 1 }", "{ work 1 work 1 }", "{ work 1; work 1 }",
                     "{ work 1 ;work 1 }", "{work 1}", "~", "{ note plus 1 }", "{ note 1 2 }", "{ note plus 1 2 3 }",
                     "{ if { } { } }", "{ if 1 { } }", "{ if 1 { } { } { } }", "{ if 1 { } ; { } }", "{ again { work 1 } }",
                     "{ again 1 work 1 }", "{ both { work 1 } }", "{ both { work 1 } { work 1 } { work 1 } }",
                     "{ work }", "{ set 0 }", "{ set }", "{ add 0 }", "{ note }", "{ both }", "{ note ( plus 1 2 ) }"):
            self.is_refused(text)

    def test_rows_not_closed(self):
        for text in ("{ work 1", "{ work 1 ;", "{ both { work 1 } { work 1 }", "{ both { work 1 { work 1 } }",
                     "{ if 1 { { } }", "{ if 1 { } { }", "{ again 2 { work 1 }", "{ again 2 { work 1 ; }"):
            self.is_refused(text)

    def test_something_behind_the_end(self):
        for text in ("{ }", "{ work 1 }", TEXT):
            for more in (" }", " {", " { }", " ;", " ; work 1", " work 1", "}", ";", " ", " 0", "x"):
                self.is_refused(text + more)
                self.is_refused(more.strip() + " " + text)

    def test_empty_rows_stand_in_an_if_alone(self):
        for text in ("{ again 1 { } }", "{ both { } { work 1 } }", "{ both { work 1 } { } }", "{ both { } { } }",
                     "{ if 1 { again 2 { } } { } }"):
            self.is_refused(text)

    def test_rows_too_long(self):
        for length in (7, 8, 50, 5000):
            steps = " ; ".join(["work 1"] * length)
            for form in ("{ %s }", "{ if 1 { %s } { } }", "{ if 1 { } { %s } }", "{ again 2 { %s } }",
                         "{ both { %s } { work 1 } }", "{ both { work 1 } { %s } }"):
                self.is_refused(form % steps)

    def test_rows_too_deep(self):
        for word in ("if", "again", "both"):
            for side in (1, 2):
                for depth in (7, 8, 30, 100):
                    self.is_refused(written(deep_rows(depth, word, side)))
        self.is_refused(written(deep_rows(7, "if", 1, ())))
        for start in ("{ again 2 ", "{ if 1 ", "{ if 1 { } ", "{ both { work 1 } ", "{ "):
            self.is_refused(start * 20000)
            self.is_refused(start * 20000 + "{ work 1 }" + " }" * 20000)

    def test_sums_too_deep(self):
        for word in ("plus", "less", "times", "under"):
            for side in (1, 2):
                for depth in (5, 6, 30, 100):
                    value = deep_sum(depth, word, side)
                    for step in (("note", value), ("set", 0, value), ("if", value, (), ())):
                        self.is_refused(written((step,)))
            self.is_refused("{ note " + (word + " ") * 20000)
            self.is_refused("{ note " + (word + " ") * 20000 + "1 " * 20001 + "}")


class Exact(Reading):
    def test_every_short_text_of_some_words(self):
        words = ("{", "}", ";", "note", "if", "plus", "7", "c0", "")
        leaves = ["7", "c0"]
        sums = leaves + [f"plus {one} {other}" for one in leaves for other in leaves]
        wanted = {"{ }"} | {f"{{ note {value} }}" for value in sums}
        for length in range(7):
            told = {text for text in map(" ".join, itertools.product(words, repeat=length)) if self.is_exact(text)}
            self.assertEqual(told, {text for text in wanted if len(text.split(" ")) == length})

    def test_every_short_text_of_some_signs(self):
        for length in range(8):
            for signs in itertools.product("{ };", repeat=length):
                text = "".join(signs)
                self.assertEqual(self.is_exact(text), text == "{ }", text)

    def test_programs_with_a_sign_or_a_word_changed(self):
        chance = random.Random(4)
        signs = [chr(code) for code in range(ord(" "), ord("~") + 1)]
        for program in programs(60, 5):
            text = written(program)
            for turn in range(40):
                place = chance.randrange(len(text))
                self.is_exact(text[:place] + chance.choice(signs) + text[place + 1:])
                self.is_exact(text[:place] + chance.choice(signs) + text[place:])
                self.is_exact(text[:place] + text[place + 1:])
                words = text.split(" ")
                words[chance.randrange(len(words))] = chance.choice(WORDS)
                self.is_exact(" ".join(words))


class TheRefusal(unittest.TestCase):
    def test_it_is_taken_as_any_refusal_and_as_a_wrong_value(self):
        for refusal in (NoText, CrewError, ValueError):
            with self.assertRaises(refusal):
                read("{ work 0 }")

    def test_it_is_no_other_refusal(self):
        for text in ("", "{", "{ work 0 }", "{ work x }", "{ } }"):
            try:
                read(text)
            except CrewError as refusal:
                self.assertIsInstance(refusal, NoText)
                self.assertNotIsInstance(refusal, NoTick)
            else:
                self.fail(text)


if __name__ == "__main__":
    unittest.main()
