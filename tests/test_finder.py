"""The found kind of a row, with a derivation that has it."""

import unittest

from takeleave.basics import basic_kind
from takeleave.clashes import least_places
from takeleave.derivations import derives, filled_by, kind_by
from takeleave.errors import NoKind, NoWord
from takeleave.fillings import filling_to
from takeleave.finder import found_kind
from takeleave.kinds import told_form
from takeleave.kindtexts import read_kind, show_kind
from takeleave.texts import read_row, show_row
from takeleave.words import SORTS_TAKEN
from tests.oracle import asked_kind, asked_least
from tests.samples import filled_row, fillings_in, typed_rows_in

BOOK = (("f", None, read_row("a-aa")), ("g", None, read_row("[ ab-ba ] dip plus")),
        ("h", read_kind("C z -- C z number"), read_row("h")))
KINDS = (read_kind("A a -- A a a"), read_kind("X number b number -- X b number"), read_kind("C z -- C z number"))


class Found(unittest.TestCase):

    def told(self, text, kind, book=None, kinds=None):
        row = read_row(text)
        found, derivation = found_kind(row, book, kinds)
        self.assertEqual(show_kind(*found), kind, text)
        self.assertEqual(kind_by(derivation), found, text)
        self.assertIs(derives(row, derivation, book, kinds), True, text)

    def none(self, text, book=None, kinds=None):
        with self.assertRaises(NoKind) as caught:
            found_kind(read_row(text), book, kinds)
        self.assertEqual(caught.exception.places, least_places(read_row(text), book, kinds))

    def test_each_basic_word_and_shuffles_alone(self):
        for word in sorted(SORTS_TAKEN) + ["-", "a-", "a-aa", "ab-ba", "abcdefgh-hhhhaaaadddd"]:
            self.told(word, show_kind(*basic_kind(word)))

    def test_rows_without_rows(self):
        self.told("", "A -- A")
        self.told("7", "A -- A number")
        self.told("{ }", "A -- A { a }")
        self.told("1 plus", "A number -- A number")
        self.told("plus plus", "A number number number -- A number")
        self.told("a-aa times", "A number -- A number")
        self.told("ab-ba a-aa", "A a b -- A b a a")
        self.told("a- a-", "A a b -- A")
        self.told("abc-bca plus", "A number a number -- A a number")

    def test_rows_that_are_done(self):
        self.told("[ plus ]", "A -- A [ B number number -- B number ]")
        self.told("[ ]", "A -- A [ B -- B ]")
        self.told("[ plus ] do", "A number number -- A number")
        self.told("[ ab-ba ] do", "A a b -- A b a")
        self.told("[ [ plus ] do ] do", "A number number -- A number")
        self.told("[ [ [ a-aa ] ] do ] do do", "A a -- A a a")
        self.told("do do", "A [ A -- B [ B -- C ] ] -- C")
        self.told("a-aa [ do ] dip do", "A [ A -- A ] -- A")
        self.none("1 do")
        self.none("a-aa do")

    def test_rows_that_are_dipped(self):
        self.told("[ plus ] dip", "A number number a -- A number a")
        self.told("[ [ plus ] dip ] dip", "A number number a b -- A number a b")
        self.told("[ 7 ] dip", "A a -- A number a")
        self.told("[ ab-ba ] dip ab-ba", "A a b c -- A b c a")

    def test_rows_that_are_chosen(self):
        self.told("[ plus ] [ minus ] if", "A number number number -- A number")
        self.told("[ ] [ ] if", "A number -- A")
        self.told("[ ab-ba ] [ ] if", "A a a number -- A a a")
        self.told("[ 1 ] [ 2 ] if", "A number -- A number")
        self.none("[ 1 ] [ { } ] if")
        self.none("[ 1 ] [ ] if")

    def test_rows_that_are_done_again(self):
        self.told("[ 1 ] [ ] while", "A -- A")
        self.told("[ a-aa 10 less ] [ 1 plus ] while", "A number -- A number")
        self.told("[ 2 times ] repeat", "A number number -- A number")
        self.told("repeat", "A number [ A -- A ] -- A")
        self.none("[ 1 ] [ 2 ] while")
        self.none("[ 1 ] repeat")
        self.none("[ 10 less ] [ 1 plus ] while")

    def test_rows_that_are_joined_and_wrapped(self):
        self.told("[ plus ] [ 1 minus ] join", "A -- A [ B number number -- B number ]")
        self.told("join do", "A [ A -- B ] [ B -- C ] -- C")
        self.told("wrap", "A a -- A [ B -- B a ]")
        self.told("wrap wrap", "A a -- A [ B -- B [ C -- C a ] ]")
        self.told("wrap do", "A a -- A a")
        self.told("7 wrap [ plus ] join", "A -- A [ B number -- B number ]")
        self.told("[ wrap ] dip wrap join", "A a b -- A [ B -- B a b ]")
        self.none("wrap plus")
        self.none("1 [ ] join")

    def test_rows_along_a_list(self):
        self.told("{ 1 2 } [ plus ] each", "A number -- A number")
        self.told("[ plus ] each", "A number { number } -- A number")
        self.told("[ a- ] each", "A { a } -- A")
        self.told("0 ab-ba [ plus ] each", "A { number } -- A number")
        self.told("[ a- ] [ 0 ] part", "A { number } -- A number")
        self.none("{ 1 } [ do ] each")
        self.none("[ 1 ] each")

    def test_lists(self):
        self.told("{ 1 2 }", "A -- A { number }")
        self.told("{ { } { } }", "A -- A { { a } }")
        self.told("{ { } { 1 } }", "A -- A { { number } }")
        self.told("{ } 1 put", "A -- A { number }")
        self.told("{ } { } put", "A -- A { { a } }")
        self.told("{ [ plus ] [ minus ] }", "A -- A { [ B number number -- B number ] }")
        self.told("{ [ ] [ ab-ba ] }", "A -- A { [ B a a -- B a a ] }")
        self.told("{ { [ ] } { [ ab-ba ] [ ] } { } }", "A -- A { { [ B a a -- B a a ] } }")
        self.told("1 2 { [ a-aa ] }", "A -- A number number { [ B a -- B a a ] }")
        self.none("{ 1 { } }")
        self.none("{ [ ] [ 1 ] }")
        self.none("{ 1 } { } put")
        self.none("{ } a-aa put")

    def test_pushed_rows_have_one_kind_at_a_place(self):
        self.none("[ a-aa ] a-aa [ do ] dip do")
        self.told("[ ] a-aa [ do ] dip do", "A -- A")
        self.none("[ wrap ] a-aa [ do ] dip do")

    def test_told_words_have_at_each_place_a_kind_of_their_own(self):
        self.told("f", "A a -- A a a", BOOK, KINDS)
        self.told("f f", "A a -- A a a a", BOOK, KINDS)
        self.told("1 f { } f [ ] f", "A -- A number number { a } { a } [ B -- B ] [ B -- B ]", BOOK, KINDS)
        self.told("[ f ] [ f ] join", "A -- A [ B a -- B a a a ]", BOOK, KINDS)
        self.told("g", "A number a number -- A a number", BOOK, KINDS)
        self.told("h h", "A a -- A a number number", BOOK, KINDS)
        self.told("{ [ f ] [ f ] }", "A -- A { [ B a -- B a a ] }", BOOK, KINDS)
        self.none("f do", BOOK, KINDS)

    def test_two_and_more_deep(self):
        self.told("[ [ [ plus ] do ] ] do do", "A number number -- A number")
        self.told("[ [ [ [ [ [ 1 ] ] ] ] ] ]",
                  "A -- A [ B -- B [ C -- C [ D -- D [ E -- E [ F -- F [ G -- G number ] ] ] ] ] ]")
        self.told("[ { [ [ dip ] ] } ] do", "A -- A { [ B -- B [ C a [ C -- D ] -- D a ] ] }")

    def test_names_beyond_the_letters(self):
        text = " ".join(["[ ]"] * 30)
        names = [chr(ord("B") + at) for at in range(25)] + ["A1", "B1", "C1", "D1", "E1"]
        self.told(text, "A -- A " + " ".join([f"[ {name} -- {name} ]" for name in names]))
        text = " ".join(["{ }"] * 30)
        names = [chr(ord("a") + at) for at in range(26)] + ["a1", "b1", "c1", "d1"]
        self.told(text, "A -- A " + " ".join(["{ " + name + " }" for name in names]))

    def test_rows_of_sixty_words(self):
        self.told(" ".join(["plus"] * 60), "A " + "number " * 61 + "-- A number")
        self.told(" ".join(["f"] * 60), "A a -- A" + " a" * 61, BOOK, KINDS)
        self.told(" ".join(["[ 1 plus ] join"] * 20), "A [ B -- C number ] -- A [ B -- C number ]")
        self.none(" ".join(["plus"] * 59 + ["do"]))

    def test_a_thousand_parts(self):
        text = " ".join(["wrap"] * 60)
        row = read_row(text)
        found, derivation = found_kind(row)
        self.assertIs(derives(row, derivation), True)
        self.assertEqual(show_kind(*found).count("--"), 61)

    def test_kinds_that_are_far_greater_written_out(self):
        # Nothing is promised of them, but that they clash is still told.
        self.none(" ".join(["if"] * 57 + ["1", "do"]))

    def test_as_a_plain_search_finds(self):
        told = dict(zip(("f", "g", "h"), KINDS))
        found_ones = 0
        for row in typed_rows_in(111, 900):
            wanted = asked_kind(row, None, told)
            if wanted is None:
                with self.assertRaises(NoKind) as caught:
                    found_kind(row, BOOK, KINDS)
                self.assertEqual(caught.exception.places, asked_least(row, told), show_row(row))
            else:
                found_ones += 1
                found, derivation = found_kind(row, BOOK, KINDS)
                self.assertEqual(found, told_form(*wanted), show_row(row))
                self.assertEqual(kind_by(derivation), found)
                self.assertIs(derives(row, derivation, BOOK, KINDS), True, show_row(row))
        self.assertGreater(found_ones, 200)
        self.assertLess(found_ones, 800)

    def test_what_other_derivations_have_is_a_filling_of_it(self):
        others = {
            "do": (((("", (("row", ("", ()), ("", (("number",),))),)), ("", (("number",),))), (None,)),),
            "[ ]": ((((("B", ()), ("B", (("row", ("", ()), ("", ())),)))), (((("", ()),), ()),)),),
        }
        for text, derivations in others.items():
            for derivation in derivations:
                self.assertIs(derives(read_row(text), derivation), True)
                self.assertIsNotNone(filling_to(found_kind(read_row(text))[0], kind_by(derivation)))
        for text in ("[ plus ] [ ab-ba ] [ dip ] do do", "{ [ ] [ ab-ba ] } [ a- ] each", "f [ f ] wrap"):
            row = read_row(text)
            found, derivation = found_kind(row, BOOK, KINDS)
            for by in fillings_in(112, 50):
                other = filled_by(derivation, by)
                self.assertIs(derives(row, other, BOOK, KINDS), True)
                self.assertEqual(kind_by(other), filled_row(found, by))
                self.assertIsNotNone(filling_to(found, kind_by(other)))

    def test_nothing_that_is_handed_in_is_changed(self):
        row = read_row("{ [ f ] [ g ] } 1 [ h ] dip")
        before = repr((row, BOOK, KINDS))
        try:
            found_kind(row, BOOK, KINDS)
        except NoKind:
            pass
        self.assertEqual(repr((row, BOOK, KINDS)), before)


class NoWords(unittest.TestCase):

    def refused(self, row, place, book=None, kinds=None):
        for asked in (found_kind, least_places):
            with self.assertRaises(NoWord) as caught:
                asked(row, book, kinds)
            self.assertEqual(caught.exception.place, place, row)

    def test_a_text_that_is_no_word(self):
        for text in ("", "a-b", "ba-", "a--", "f", "number", "A", "plus ", "abcdefghi-", "a-aaaaaaaaaaaaa", "[", "7"):
            self.refused((text,), (0,))
            self.refused(("plus", text), (1,))
            self.refused((("push", ("row", ("plus", text))),), (0, 1))
            self.refused((("push", ("list", (("number", 1), ("row", (text,))))),), (0, 1, 0))
            self.refused((("push", ("list", (("list", (("row", ("do", text)),)),))),), (0, 0, 0, 1))

    def test_the_first_one(self):
        self.refused(read_row("plus [ f ] g"), (1, 0))
        self.refused(read_row("plus [ [ ] [ { 1 [ do g ] } ] g ] g"), (1, 1, 0, 1, 1))
        self.refused(read_row("{ { } [ ] { [ plus ] [ g ] } [ g ] } g"), (0, 2, 1, 0))

    def test_ahead_of_no_kind(self):
        self.refused(read_row("1 do g"), (2,))
        self.refused(read_row("[ 1 do ] [ 1 do g ]"), (1, 2))

    def test_told_words_without_book_or_kinds(self):
        row = read_row("plus f")
        for book, kinds in ((None, None), (BOOK, None), (None, KINDS), ((), KINDS), (BOOK, ()), ((), ())):
            self.refused(row, (1,), book, kinds)
        self.refused(read_row("f i h"), (1,), BOOK, KINDS)
        with self.assertRaises(NoWord):
            found_kind(row)
