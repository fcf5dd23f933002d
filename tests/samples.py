"""Programs and sums that several tests draw on."""

import random

LEAVES = (0, 1, 999, ("cell", 0), ("cell", 5))
SUM_WORDS = ("plus", "less", "times", "under")
ROW_WORDS = ("if", "again", "both")

# A step of each kind, at both ends of each of its bounds.
PLAIN_STEPS = (
    ("set", 0, 0),
    ("set", 5, 999),
    ("add", 0, ("cell", 5)),
    ("add", 5, ("cell", 0)),
    ("note", 0),
    ("note", 999),
    ("work", 1),
    ("work", 9),
)

# Ways to put one row into a program, each at another place.
WRAPPERS = (
    lambda row: row,
    lambda row: (("if", 1, row, ()),),
    lambda row: (("if", 1, (), row),),
    lambda row: (("again", 2, row),),
    lambda row: (("both", row, (("work", 1),)),),
    lambda row: (("both", (("work", 1),), row),),
    lambda row: (("work", 3), ("both", (("note", 1),), (("if", ("cell", 0), (), (("again", 4, row),)),)), ("note", 2)),
)

# Ways to put a sum into a step, each at another place.
SUM_PLACES = (
    lambda value: ("set", 0, value),
    lambda value: ("add", 0, value),
    lambda value: ("note", value),
    lambda value: ("if", value, (), ()),
    lambda value: ("note", ("plus", value, 1)),
    lambda value: ("if", ("under", 1, value), (("work", 1),), ()),
)


def both(one, other):
    return ("both", one, other)


def work(n):
    return ("work", n)


def note(value):
    return ("note", value)


def in_its_place(row):
    """The step in the place of a both whose rows, one behind the other, are this one."""
    return ("if", 1, row, ())


def deep_sum(words, word="plus", side=1):
    """A sum so many words deep, on one side."""
    value = ("cell", 1)
    for turn in range(words):
        value = (word, value, 2) if side == 1 else (word, 2, value)
    return value


def full_sum(words):
    """A sum so many words deep, on both sides."""
    if words == 0:
        return 7
    return (SUM_WORDS[words % 4], full_sum(words - 1), full_sum(words - 1))


def around(word, row, side=1):
    """A step of this word with this row in it."""
    if word == "again":
        return ("again", 2, row)
    beside = (("work", 1),)
    rows = (row, beside) if side == 1 else (beside, row)
    return ("both",) + rows if word == "both" else ("if", 1) + rows


def deep_rows(steps, word="both", side=1, inmost=(("work", 1),)):
    """A program with a row that lies in so many steps."""
    row = inmost
    for turn in range(steps):
        row = (around(word, row, side),)
    return row


def any_sum(chance, words):
    if words == 0 or chance.random() < 0.4:
        return chance.choice(LEAVES)
    return (chance.choice(SUM_WORDS), any_sum(chance, words - 1), any_sum(chance, words - 1))


def any_step(chance, depth):
    word = chance.choice(("set", "add", "note", "work") + (ROW_WORDS if depth else ()))
    if word in ("set", "add"):
        return (word, chance.randint(0, 5), any_sum(chance, 4))
    if word == "note":
        return (word, any_sum(chance, 4))
    if word == "work":
        return (word, chance.randint(1, 9))
    if word == "again":
        return (word, chance.randint(1, 4), any_row(chance, 1, depth - 1))
    if word == "both":
        return (word, any_row(chance, 1, depth - 1), any_row(chance, 1, depth - 1))
    return (word, any_sum(chance, 4), any_row(chance, 0, depth - 1), any_row(chance, 0, depth - 1))


def any_row(chance, fewest, depth):
    most = 6 if depth > 4 else 3
    return tuple(any_step(chance, depth) for turn in range(chance.randint(fewest, most)))


def programs(count, seed=1):
    """So many programs, the same ones each time."""
    chance = random.Random(seed)
    return [any_row(chance, 0, chance.randint(0, 6)) for turn in range(count)]


def is_plain(thing):
    """Whether it is of a kind that may be told."""
    if type(thing) is tuple:
        return all(is_plain(part) for part in thing)
    return thing is None or type(thing) in (int, bool, str)
