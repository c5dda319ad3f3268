"""What the kinds promise of runs: no fault from a stack that fits, and an end that fits."""

import random
import unittest

from takeleave.bookkinds import kinds_of
from takeleave.errors import NoKind
from takeleave.fillings import filled_stack
from takeleave.finder import found_kind
from takeleave.joins import joined
from takeleave.kinds import opens_of
from takeleave.kindtexts import read_kind
from takeleave.runs import run, states
from takeleave.stackkinds import fits, kind_of_stack
from takeleave.texts import read_row, read_stack, show_row, show_stack
from tests.samples import typed_rows_in, typed_thing_by

BOOK = (("f", None, read_row("[ ab-ba ] dip plus")), ("g", None, read_row("wrap [ a-aa ] ab-ba join")),
        ("h", read_kind("A number -- A number"), read_row("a-aa [ 1 minus h ] [ ] if")))
KINDS = kinds_of(BOOK)
NONE = ("", ())


def things_with_a_kind(chance, many):
    """So many things that have a kind."""
    things = []
    while len(things) < many:
        thing = typed_thing_by(chance, 2)
        if kind_of_stack((thing,), BOOK, KINDS) is not None:
            things.append(thing)
    return things


def stack_for(chance, take, pool):
    """A stack that might fit a kind of stacks."""
    things = [chance.choice(pool) for at in range(chance.randrange(3))]
    for kind in take[1]:
        fitting = [thing for thing in chance.sample(pool, 20) if fits((thing,), ("", (kind,)), BOOK, KINDS)]
        things.append(chance.choice(fitting or pool))
    return tuple(things)


def own_names(kind, figures):
    """A kind of stacks with these figures behind each name."""
    names = sorted(opens_of(kind, NONE))
    return filled_stack(kind, tuple([
        (name, ("open", name + figures) if name[0].islower() else (name + figures, ())) for name in names]))


class Promise(unittest.TestCase):

    def holds(self, row, kind, stack):
        """No fault comes from a stack that fits, and where the row ends, the stack fits by the same filling."""
        take, leave = kind
        how, steps, (end, todo) = run(row, stack, 60, BOOK)
        self.assertNotEqual(how, "fault", (show_row(row), show_stack(stack)))
        if how == "ended":
            self.assertIs(fits(end, leave, BOOK, KINDS), True, (show_row(row), show_stack(stack)))
            kinds = [own_names(kind_of_stack(each, BOOK, KINDS), figures) for each, figures in ((stack, "7"), (end, "8"))]
            self.assertIsNotNone(joined(kind, tuple(kinds)), (show_row(row), show_stack(stack)))
        for now, ahead in states(row, stack, 12, BOOK)[::4]:
            self.assertIs(fits(now, found_kind(ahead, BOOK, KINDS)[0][0], BOOK, KINDS), True)
        if take[0] not in opens_of(("", take[1]), NONE):
            beneath = read_stack("[ nought ] [ 1 do ] { 1 { } } 7")
            self.assertIs(fits(beneath + stack, take, BOOK, KINDS), True)
            self.assertEqual(run(row, beneath + stack, 60, BOOK), (how, steps, (beneath + end, todo)))

    def test_rows_made_by_chance(self):
        chance = random.Random(131)
        pool = things_with_a_kind(chance, 80)
        fitted = 0
        for row in typed_rows_in(132, 250):
            try:
                kind, derivation = found_kind(row, BOOK, KINDS)
            except NoKind:
                continue
            for at in range(12):
                stack = stack_for(chance, kind[0], pool)
                if fits(stack, kind[0], BOOK, KINDS):
                    fitted += 1
                    self.holds(row, kind, stack)
        self.assertGreater(fitted, 400)

    def test_rows_that_are_written(self):
        for text, stack in (
            ("[ a-aa 10 less ] [ 1 plus ] while", "3"),
            ("0 ab-ba [ plus ] each", "{ 1 2 3 }"),
            ("[ ab-ba a- ] [ { } ] part", "{ { 1 } }"),
            ("a-aa [ do ] dip do", "1 2 [ ab-ba ]"),
            ("[ 2 times ] repeat", "3 4"),
            ("h", "5"),
            ("do do", "1 2 [ [ plus ] ]"),
            ("wrap [ wrap ] dip join do", "[ plus ] 7"),
            ("{ [ plus ] [ minus ] } [ a- ] each", ""),
        ):
            row, things = read_row(text), read_stack(stack)
            kind, derivation = found_kind(row, BOOK, KINDS)
            self.assertIs(fits(things, kind[0], BOOK, KINDS), True, (text, stack))
            self.holds(row, kind, things)
