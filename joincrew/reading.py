"""The programs of texts."""

from joincrew.errors import NoText
from joincrew.things import DEEPEST_ROW, DEEPEST_SUM, ROW_BOUNDS, STEP_PARTS, SUM_WORDS, is_program

DIGITS = "0123456789"
MOST_DIGITS = 3


def read(text):
    words = Words(text)
    program = read_row(words, DEEPEST_ROW)
    if not words.are_over():
        raise NoText("something stands behind the program")
    # The parts above keep to the form and the depth; numbers and lengths are judged here.
    if not is_program(program):
        raise NoText("a number or a row is beyond its bounds")
    return program


# The words of a text, taken one behind the other. Blanks that are doubled or at an end
# make empty words, which no part of a program takes.
class Words:
    def __init__(self, text):
        self.words = text.split(" ")
        self.place = 0

    def are_over(self):
        return self.place == len(self.words)

    def coming(self):
        if self.are_over():
            raise NoText("the text ends too early")
        return self.words[self.place]

    def take(self):
        word = self.coming()
        self.place += 1
        return word

    def pass_by(self, wanted):
        word = self.take()
        if word != wanted:
            raise NoText(f"{word!r} stands in the place of {wanted!r}")


# steps_left bounds the recursion, so that no text, however deep, is more than refused.
def read_row(words, steps_left):
    words.pass_by("{")
    steps = []
    if words.coming() != "}":
        steps.append(read_step(words, steps_left))
    while words.coming() == ";":
        words.pass_by(";")
        steps.append(read_step(words, steps_left))
    words.pass_by("}")
    return tuple(steps)


def read_step(words, steps_left):
    word = words.take()
    if word not in STEP_PARTS:
        raise NoText(f"{word!r} begins no step")
    parts = [read_part(words, kind, steps_left) for kind in STEP_PARTS[word]]
    return tuple([word] + parts)


def read_part(words, kind, steps_left):
    if kind == "sum":
        return read_sum(words, DEEPEST_SUM)
    if kind not in ROW_BOUNDS:
        return read_number(words.take())
    if steps_left == 0:
        raise NoText("a row lies too deep")
    return read_row(words, steps_left - 1)


def read_sum(words, words_left):
    word = words.take()
    if word in SUM_WORDS:
        if words_left == 0:
            raise NoText("a sum lies too deep")
        one = read_sum(words, words_left - 1)
        other = read_sum(words, words_left - 1)
        return (word, one, other)
    if word.startswith("c"):
        return ("cell", read_number(word[1:]))
    return read_number(word)


# int takes signs, underscores and noughts ahead as well, which no writing has.
def read_number(word):
    if word == "" or word.strip(DIGITS) != "" or len(word) > MOST_DIGITS:
        raise NoText(f"{word!r} is no number")
    number = int(word)
    if str(number) != word:
        raise NoText(f"{word!r} has a nought ahead")
    return number
