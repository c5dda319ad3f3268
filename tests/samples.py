"""Values that several tests use."""

import random

from takeleave.fillings import filled_stack
from takeleave.kindtexts import read_kind
from takeleave.words import SORTS_TAKEN


class Touchy:
    """An object that refuses to be compared, counted or asked for its truth."""

    def __eq__(self, other):
        raise RuntimeError("compared")

    def __len__(self):
        raise RuntimeError("counted")

    def __bool__(self):
        raise RuntimeError("asked for its truth")


def nested(depth, mark=None):
    """A tuple so many deep, each with a mark ahead if there is one."""
    inside = ()
    for at in range(depth - 1):
        inside = (inside,) if mark is None else (mark, inside)
    return inside


def oddities():
    """Values of all sorts, none of them a thing, a word, a row, a stack, a kind, a filling or a text of one."""
    flat = [
        None, True, False, 0, 1, -1, 10 ** 12, 10 ** 40, b"", b"number", b"a-a", [], [1], ["number", 1], {}, {"a": 1},
        set(), frozenset(["a"]), range(3), object(), len, str, ..., NotImplemented, Touchy(), bytearray(b"a"),
        " ", "-a", "A-", "a_", "number ", "[", "]", "{", "}", "[]", "\n", "\u00e9", "\u0661", "\ud800",
    ]
    tagged = [
        (tag, held) for tag in ("number", "row", "list", "push", "open", "", b"number", None, 0, (), Touchy())
        for held in ("", "1", None, True, False, -1, 10 ** 12, [], {}, set(), Touchy(), b"", [()], "Plus", "A1")
    ]
    tuples = [(None,), ("",), (0,), ((),), ([],), ("number", 1, 2), ("push", ()), ("push", ("number", True)),
              (("number", 1), ("number", -1)), ("push", ("number", 1), ("number", 1))]
    deep = [nested(100), nested(100, "row"), nested(100, "list"), nested(100, "push"), nested(100, "open")]
    return flat + tagged + tuples + deep


def things_in(seed, many):
    """So many things made by chance from a seed, always the same."""
    chance = random.Random(seed)
    return [thing_by(chance, 4) for at in range(many)]


def rows_in(seed, many):
    """So many rows made by chance from a seed, always the same."""
    chance = random.Random(seed)
    return [row_by(chance, 4) for at in range(many)]


def thing_by(chance, deep):
    sort = chance.choice(("number", "row", "list")) if deep else "number"
    if sort == "number":
        return ("number", chance.choice((0, 1, 2, 10, 907, 10 ** 12 - 1)))
    if sort == "row":
        return ("row", row_by(chance, deep - 1))
    return ("list", tuple([thing_by(chance, deep - 1) for at in range(chance.randrange(4))]))


def row_by(chance, deep):
    return tuple([word_by(chance, deep) for at in range(chance.randrange(5))])


def word_by(chance, deep):
    if deep and chance.randrange(2):
        return ("push", thing_by(chance, deep - 1))
    return chance.choice(sorted(SORTS_TAKEN) + ["-", "a-", "a-aa", "ab-ba", "abc-bca", "f", "plusone", "zzzzzzzz"])


def typed_rows_in(seed, many):
    """So many rows made by chance from a seed, always the same, many of which have a kind, with told words f, g, h."""
    chance = random.Random(seed)
    return [typed_row_by(chance, 3, chance.randrange(1, 10)) for at in range(many)]


def typed_row_by(chance, deep, many):
    words = sorted(SORTS_TAKEN) + ["-", "a-", "a-aa", "ab-ba", "abc-bca", "ab-aba", "f", "g", "h"]
    return tuple([("push", typed_thing_by(chance, deep)) if chance.random() < 0.45 else chance.choice(words)
                  for at in range(many)])


def typed_thing_by(chance, deep):
    sort = chance.choice(("number", "row", "row", "list")) if deep else "number"
    if sort == "number":
        return ("number", chance.randrange(5))
    if sort == "row":
        return ("row", typed_row_by(chance, deep - 1, chance.randrange(4)))
    return ("list", tuple([typed_thing_by(chance, deep - 1) for at in range(chance.randrange(3))]))


def row_kinds_in(seed, many):
    """So many rows' kinds made by chance from a seed, always the same."""
    chance = random.Random(seed)
    return [(stack_kind_by(chance, 3), stack_kind_by(chance, 3)) for at in range(many)]


def fillings_in(seed, many):
    """So many fillings made by chance from a seed, always the same."""
    chance = random.Random(seed)
    return [filling_by(chance) for at in range(many)]


def kind_by(chance, deep):
    sort = chance.choice(("number", "open", "open", "list", "row")) if deep else chance.choice(("number", "open"))
    if sort == "number":
        return ("number",)
    if sort == "open":
        return ("open", chance.choice(("a", "b", "c", "z", "a1", "b20")))
    if sort == "list":
        return ("list", kind_by(chance, deep - 1))
    return ("row", stack_kind_by(chance, deep - 1), stack_kind_by(chance, deep - 1))


def stack_kind_by(chance, deep):
    rest = chance.choice(("", "A", "A", "B", "C", "A1", "Z12"))
    return (rest, tuple([kind_by(chance, deep) for at in range(chance.randrange(4))]))


def filling_by(chance):
    parts = {}
    for name in ("A", "A1", "B", "Z12", "a", "a1", "b", "z"):
        if chance.randrange(3):
            parts[name] = kind_by(chance, 2) if name.islower() else stack_kind_by(chance, 2)
    return tuple(sorted(parts.items(), key=lambda pair: pair[0]))


def kind(text):
    """The kind of things that a text is of."""
    return read_kind(text + " --")[0][1][0]


def stack(text):
    """The kind of stacks that a text is of."""
    return read_kind((text + " --").strip())[0]


def filling(**parts):
    """The filling with these texts for these names."""
    made = {name: stack(text) if name.isupper() else kind(text) for name, text in parts.items()}
    return tuple([(name, made[name]) for name in sorted(made)])


def filled_row(row_kind, by):
    return filled_stack(row_kind[0], by), filled_stack(row_kind[1], by)
