"""Stacks that are of a kind of stacks, and the most open kind of a stack."""

import random
import unittest

from takeleave.bookkinds import kinds_of
from takeleave.fillings import filling_to, same_kind
from takeleave.kinds import is_stack_kind, opens_of
from takeleave.kindtexts import read_kind, show_kind
from takeleave.stackkinds import fits, kind_of_stack
from takeleave.texts import read_row, read_stack, show_stack
from tests.oracle import plain_fits
from tests.samples import stack, stack_kind_by, things_in

BOOK = (("f", None, read_row("a-aa plus")), ("g", read_kind("A -- A number"), read_row("g")))
KINDS = kinds_of(BOOK)
NONE = ("", ())


def shown(things, book=None, kinds=None):
    """The kind of a stack that is written so, as it is written."""
    told = kind_of_stack(read_stack(things), book, kinds)
    return None if told is None else show_kind(told, NONE)[:-3]


class Fits(unittest.TestCase):

    def tells(self, truth, things, kind, book=None, kinds=None):
        things = read_stack(things) if isinstance(things, str) else things
        self.assertIs(fits(things, stack(kind), book, kinds), truth, (things, kind))

    def test_numbers(self):
        self.tells(True, "7", "number")
        self.tells(True, "7", "a")
        self.tells(True, "7 8", "a a")
        self.tells(True, "7 8", "a b")
        self.tells(False, "7", "{ a }")
        self.tells(False, "7", "[ A -- B ]")
        self.tells(False, "7", "number number")
        self.tells(False, "", "number")
        self.tells(False, "", "a")

    def test_lists(self):
        self.tells(True, "{ }", "{ a }")
        self.tells(True, "{ }", "{ [ -- number ] }")
        self.tells(True, "{ }", "a")
        self.tells(True, "{ 1 2 }", "{ number }")
        self.tells(True, "{ 1 2 }", "{ a }")
        self.tells(False, "{ 1 2 }", "{ { a } }")
        self.tells(False, "{ 1 2 }", "number")
        self.tells(False, "{ 1 2 }", "[ A -- A ]")
        self.tells(True, "{ { } { 1 } }", "{ { number } }")
        self.tells(False, "{ { [ ] } { 1 } }", "a")
        self.tells(False, "{ 1 { } }", "a")
        self.tells(False, "{ 1 { } }", "{ a }")
        self.tells(False, "{ 1 [ ] }", "a")

    def test_lists_of_rows(self):
        self.tells(True, "{ [ plus ] [ minus ] }", "{ [ number number -- number ] }")
        self.tells(True, "{ [ plus ] [ minus ] }", "{ [ A number number -- A number ] }")
        self.tells(False, "{ [ plus ] [ minus ] }", "{ [ A number -- A number ] }")
        self.tells(True, "{ [ ab-ba ] [ ] }", "{ [ number number -- number number ] }")
        self.tells(True, "{ [ ab-ba ] [ ] }", "{ [ A a a -- A a a ] }")
        self.tells(False, "{ [ ab-ba ] [ ] }", "{ [ number { a } -- number { a } ] }")
        self.tells(False, "{ [ ab-ba ] [ ] }", "{ [ number { a } -- { a } number ] }")
        self.tells(False, "{ [ plus ] [ do ] }", "a")
        self.tells(False, "{ [ plus ] [ ] }", "{ a }")
        self.tells(False, "{ [ 1 do ] }", "a")
        self.tells(False, "{ [ ] [ 1 do ] }", "{ a }")

    def test_rows(self):
        self.tells(True, "[ plus ]", "[ A number number -- A number ]")
        self.tells(True, "[ plus ]", "[ number number -- number ]")
        self.tells(True, "[ plus ]", "[ A a a -- A a ]")
        self.tells(True, "[ plus ]", "[ A -- B ]")
        self.tells(True, "[ plus ]", "a")
        self.tells(False, "[ plus ]", "[ A number -- A number ]")
        self.tells(False, "[ plus ]", "[ A { a } number -- B ]")
        self.tells(False, "[ plus ]", "[ A -- A ]")
        self.tells(False, "[ plus ]", "[ A number number -- B { a } ]")
        self.tells(False, "[ plus ]", "number")
        self.tells(False, "[ plus ]", "{ a }")
        self.tells(True, "[ ]", "[ A -- A ]")
        self.tells(True, "[ ]", "[ -- ]")
        self.tells(False, "[ ]", "[ -- number ]")

    def test_rows_without_a_kind(self):
        for text in ("[ 1 do ]", "[ a-aa do ]", "[ [ 1 do ] ]", "{ [ 1 do ] }", "{ { [ 1 2 do ] } }"):
            for kind in ("a", "[ A -- B ]", "{ a }", "{ { a } }", "A a", "[ A -- A a ]"):
                self.tells(False, text, kind)

    def test_told_words(self):
        self.tells(True, "[ f ]", "[ A number -- A number ]", BOOK, KINDS)
        self.tells(False, "[ f ]", "[ A { a } -- B ]", BOOK, KINDS)
        self.tells(True, "[ g f ]", "[ -- number ]", BOOK, KINDS)
        self.tells(True, "{ [ f ] [ 1 plus ] }", "{ [ A number -- A number ] }", BOOK, KINDS)
        self.tells(False, "[ f ]", "a")
        self.tells(False, "[ f ]", "a", BOOK)
        self.tells(False, "[ f ]", "a", None, KINDS)

    def test_a_text_that_is_no_word(self):
        self.tells(False, "[ h ]", "a", BOOK, KINDS)
        self.tells(False, "[ [ { [ h ] } ] ]", "a", BOOK, KINDS)
        self.tells(False, "{ [ ] [ h ] }", "{ a }", BOOK, KINDS)
        for text in ("", "a-b", "A"):
            self.tells(False, (("row", (text,)),), "a")
            self.tells(True, (("row", (text,)), ("number", 1)), "A a")

    def test_no_rest(self):
        self.tells(True, "", "")
        self.tells(False, "7", "")
        self.tells(False, "[ 1 do ]", "")
        self.tells(True, "1 2", "number number")
        self.tells(False, "1 2 3", "number number")
        self.tells(False, "1", "number number")
        self.tells(False, "{ } 1 2", "a number")

    def test_an_open_rest_that_stands_nowhere_else(self):
        self.tells(True, "", "A")
        self.tells(True, "1 2 3", "A")
        self.tells(True, "[ 1 do ]", "A")
        self.tells(True, "[ h ] { [ 1 do ] 7 } 2", "A number")
        self.tells(True, "[ h ] [ do ] 2", "A [ B -- C ] number")
        self.tells(False, "[ h ] 2", "A a number")
        self.tells(False, "[ h ] 2", "A { a }")
        self.tells(False, "", "A a")
        self.tells(True, "1 2 [ plus ]", "A [ B -- C ]")

    def test_an_open_rest_that_stands_in_the_kinds(self):
        self.tells(True, "1 2 [ plus ]", "A [ A -- B ]")
        self.tells(True, "1 2 [ plus ]", "A [ A -- number ]")
        self.tells(False, "1 2 [ plus ]", "A [ A -- { a } ]")
        self.tells(False, "1 2 3 [ plus ]", "A [ A -- number ]")
        self.tells(True, "1 2 3 [ plus ]", "A [ A -- number number ]")
        self.tells(False, "1 { } [ plus ]", "A [ A -- B ]")
        self.tells(False, "1 [ plus ]", "A [ A -- B ]")
        self.tells(False, "1 2 [ plus ]", "A [ A -- A ]")
        self.tells(True, "1 2 [ ab-ba ]", "A [ A -- A ]")
        self.tells(False, "1 { } [ ab-ba ]", "A [ A -- A ]")
        self.tells(False, "[ 1 do ] [ ]", "A [ A -- A ]")
        self.tells(True, "[ 1 do ] [ ]", "A [ B -- B ]")
        self.tells(False, "[ h ] [ ]", "A [ A -- A ]")
        self.tells(False, "{ 1 { } } [ ]", "A [ A -- A ]")
        self.tells(True, "[ plus ] [ do ] [ wrap ]", "A [ A -- B ]")
        self.tells(True, "", "A")
        self.tells(True, "[ ]", "A [ A -- A ]")
        self.tells(True, "[ ]", "A [ [ A -- ] -- [ A -- ] ]")
        self.tells(True, "7 { [ a- ] }", "A { [ A -- ] }")
        self.tells(False, "7 8 { [ a- ] }", "A { [ A -- ] }")

    def test_the_same_open_name_for_several_things(self):
        self.tells(True, "1 2 3", "a a a")
        self.tells(False, "1 { } 3", "a a a")
        self.tells(False, "1 2 { }", "A a a")
        self.tells(True, "{ } { 1 } { }", "a a a")
        self.tells(False, "{ } { 1 } { { } }", "a a a")
        self.tells(True, "[ plus ] [ times ]", "a a")
        self.tells(True, "[ ] [ ab-ba ]", "a a")
        self.tells(False, "[ ] [ 1 ]", "a a")
        self.tells(True, "[ 1 ] [ 2 ] { [ g ] }", "a a { a }", BOOK, KINDS)
        self.tells(False, "[ 1 ] [ 2 ] { [ f ] }", "a a { a }", BOOK, KINDS)

    def test_a_row_may_be_of_one_kind_only_by_one_filling(self):
        self.tells(True, "[ a-a ] 1", "[ B a -- B a ] a")
        self.tells(False, "[ { } put ] 1", "[ B a -- C ] a")
        self.tells(False, "[ a-aa do ]", "[ B a -- C ]")

    def test_forty_things(self):
        things = read_stack(" ".join(["{ [ plus ] [ times ] } [ [ ] do ] 7 [ wrap do ]"] * 10))
        self.assertEqual(len(things), 40)
        kind = kind_of_stack(things)
        self.assertIs(fits(things, kind), True)
        self.assertIs(fits(things, ("A", kind[1])), True)
        self.assertIs(fits(things, ("A", kind[1][1:])), True)
        self.assertIs(fits(things, ("", kind[1][1:])), False)
        self.assertIs(fits(things[1:], kind), False)
        self.assertIs(fits(things[::-1], kind), False)
        self.assertIs(fits(things, ("A", kind[1][:-1] + (("row", ("A", ()), ("B", ())),))), False)

    def test_just_where_plain_search_finds_a_filling(self):
        chance = random.Random(91)
        things = [thing for thing in things_in(92, 400) if len(show_stack((thing,))) < 60]
        fitting = 0
        for at in range(1500):
            some = tuple([chance.choice(things) for many in range(chance.randrange(4))])
            kind = stack_kind_by(chance, 2)
            wanted = plain_fits(some, kind, dict(zip(("f", "plusone"), KINDS)))
            book = (BOOK[0], ("plusone", None, ()))
            self.assertIs(fits(some, kind, book, KINDS), wanted, (show_stack(some), kind))
            fitting += wanted
        self.assertGreater(fitting, 100)


class KindOfStack(unittest.TestCase):

    def test_ordinary_ones(self):
        for things, kind in {
            "": "",
            "7": "number",
            "7 8": "number number",
            "{ }": "{ a }",
            "{ } { }": "{ a } { b }",
            "{ 1 2 }": "{ number }",
            "{ { } { 1 } }": "{ { number } }",
            "{ { } { } }": "{ { a } }",
            "[ ]": "[ A -- A ]",
            "[ ] [ ]": "[ A -- A ] [ B -- B ]",
            "[ a- ] 1 [ plus ]": "[ A a -- A ] number [ B number number -- B number ]",
            "{ [ plus ] [ minus ] }": "{ [ A number number -- A number ] }",
            "{ [ ab-ba ] [ ] }": "{ [ A a a -- A a a ] }",
            "{ [ ab-ba ] [ ] } [ ]": "{ [ A a a -- A a a ] } [ B -- B ]",
            "[ do ] [ dip ]": "[ A [ A -- B ] -- B ] [ C a [ C -- D ] -- D a ]",
        }.items():
            self.assertEqual(shown(things), kind, things)

    def test_told_words(self):
        self.assertEqual(shown("[ f ] [ g ]", BOOK, KINDS), "[ A number -- A number ] [ B -- B number ]")

    def test_none(self):
        for things in ("[ 1 do ]", "1 [ 1 do ] 2", "{ 1 { } }", "{ [ ] [ 1 ] }", "{ [ 1 do ] }", "[ f ]", "1 { [ f ] }",
                       "[ { [ f ] } ]", "{ { 1 } { { } } }", "[ a-aa do ]"):
            self.assertIsNone(kind_of_stack(read_stack(things)), things)
        self.assertIsNone(kind_of_stack(read_stack("[ f ]"), BOOK))
        self.assertIsNone(kind_of_stack(read_stack("[ h ]"), BOOK, KINDS))
        self.assertIsNone(kind_of_stack((("row", ("a-b",)),)))
        self.assertIsNone(kind_of_stack((("row", ("",)),)))

    def test_a_stack_fits_its_own_kind_and_it_is_the_most_open_one(self):
        chance = random.Random(93)
        things = [thing for thing in things_in(94, 400) if kind_of_stack((thing,)) is not None]
        for at in range(200):
            some = tuple([chance.choice(things) for many in range(chance.randrange(5))])
            kind = kind_of_stack(some)
            self.assertIs(is_stack_kind(kind), True)
            self.assertEqual((kind[0], len(kind[1])), ("", len(some)))
            self.assertIs(fits(some, kind), True)
            # Each thing has the kind that it has alone, with names of its own.
            for thing, part in zip(some, kind[1]):
                alone = kind_of_stack((thing,))
                self.assertTrue(same_kind((alone, NONE), (("", (part,)), NONE)))
            names = [name for part in kind[1] for name in opens_of(("", (part,)), NONE)]
            self.assertEqual(len(names), len(set(names)))
            # All that is of kinds without open names that the stack is of is a filling of it.
            closed = stack_kind_by(chance, 2)
            if len(closed[1]) == len(some) and not opens_of(("", closed[1]), NONE):
                self.assertEqual(fits(some, ("", closed[1])),
                                 filling_to((kind, NONE), (("", closed[1]), NONE)) is not None)
