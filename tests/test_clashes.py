"""Sets of places that go together, and the least set of a row without a kind."""

import random
import unittest

from takeleave.clashes import go_together, least_places
from takeleave.errors import NoKind, NoWord
from takeleave.finder import found_kind
from takeleave.kindtexts import read_kind
from takeleave.places import places_of
from takeleave.texts import read_row, show_row
from tests.oracle import asked_kind, asked_least
from tests.samples import typed_rows_in

BOOK = (("f", None, read_row("a-aa")), ("g", None, read_row("plus")), ("h", None, read_row("1")))
KINDS = (read_kind("A a -- A a a"), read_kind("A number number -- A number"), read_kind("A -- A number"))
TOLD = dict(zip(("f", "g", "h"), KINDS))


class GoTogether(unittest.TestCase):

    def tells(self, truth, text, *places, book=BOOK, kinds=KINDS):
        self.assertIs(go_together(read_row(text), places, book, kinds), truth, (text, places))

    def test_all_places(self):
        for text in ("", "plus", "1 [ plus ] do", "{ [ ] [ ab-ba ] }", "f g h"):
            self.tells(True, text, *places_of(read_row(text)))
        for text in ("1 do", "[ 1 do ]", "{ 1 { } }", "{ [ ] [ 1 ] }", "[ { [ 1 do ] } ]", "h do"):
            self.tells(False, text, *places_of(read_row(text)))

    def test_none(self):
        for text in ("", "plus", "1 do", "{ 1 { } }", "h do"):
            self.tells(True, text)

    def test_one_left_out(self):
        self.tells(False, "2 1 do", (0,), (1,), (2,))
        self.tells(False, "2 1 do", (1,), (2,))
        self.tells(True, "2 1 do", (0,), (1,))
        self.tells(True, "2 1 do", (0,), (2,))
        self.tells(True, "2 1 do", (2,))
        self.tells(False, "{ 1 { } }", (0,))

    def test_those_of_the_row_alone(self):
        # What the words in a pushed row do is not asked: its ends may be any.
        self.tells(True, "1 [ do ] do", (0,), (1,), (2,))
        self.tells(False, "1 [ do ] do", (0,), (1,), (1, 0), (2,))
        self.tells(True, "[ 1 do ]", (0,))
        self.tells(False, "[ 1 do ]", (0, 0), (0, 1))
        self.tells(False, "[ 1 ] plus", (0,), (1,))
        self.tells(True, "{ [ 1 ] [ { } ] }", (0,))

    def test_ends_of_a_row_without_words_are_the_same(self):
        self.tells(False, "{ [ ] [ 1 ] }", (0,), (0, 1, 0))
        self.tells(False, "1 [ ] do do", (0,), (1,), (2,), (3,))
        self.tells(True, "1 [ - ] do do", (0,), (1,), (2,), (3,))
        self.tells(False, "1 [ - ] do do", (0,), (1,), (1, 0), (2,), (3,))

    def test_words_in_rows_whose_pushing_word_is_left_out(self):
        self.tells(True, "1 [ { } plus ] do", (0,), (1,), (1, 1), (2,))
        self.tells(False, "1 [ { } plus ] do", (1, 0), (1, 1))
        self.tells(True, "{ } [ plus ] do", (0,), (1, 0), (2,))
        self.tells(False, "{ } [ plus ] do", (0,), (1,), (1, 0), (2,))
        self.tells(True, "{ 1 [ plus ] }", (0, 1, 0))
        self.tells(False, "{ 1 [ plus ] }", (0,))

    def test_words_in_lists(self):
        self.tells(False, "{ [ plus ] [ do ] }", (0,), (0, 0, 0), (0, 1, 0))
        self.tells(True, "{ [ plus ] [ do ] }", (0, 0, 0), (0, 1, 0))
        self.tells(True, "{ [ plus ] [ do ] }", (0,), (0, 0, 0))
        self.tells(True, "{ [ plus ] [ do ] }", (0,), (0, 1, 0))
        self.tells(False, "{ { [ plus ] } { [ 1 ] } }", (0,), (0, 0, 0, 0), (0, 1, 0, 0))

    def test_told_words(self):
        self.tells(False, "h { } g", (1,), (2,))
        self.tells(True, "h { } g", (0,), (2,))
        self.tells(True, "h f g", (0,), (1,), (2,))
        self.tells(True, "1 f { } f", (0,), (1,), (2,), (3,))
        self.tells(False, "h f do", (0,), (1,), (2,))

    def test_kinds_that_would_stand_in_themselves(self):
        self.tells(False, "a-aa do", (0,), (1,))
        self.tells(True, "a-aa do", (0,))
        self.tells(False, "[ 1 ] repeat", (0,), (0, 0), (1,))
        self.tells(True, "[ 1 ] repeat", (0,), (1,))

    def test_a_text_that_is_no_word_wherever_it_stands(self):
        for text, place in (("i", (0,)), ("1 do i", (2,)), ("[ i ] 1", (0, 0)), ("1 { 2 [ i ] }", (1, 1, 0))):
            row = read_row(text)
            for places in ((), ((0,),), places_of(row), (place,)):
                with self.assertRaises(NoWord) as caught:
                    go_together(row, places, BOOK, KINDS)
                self.assertEqual(caught.exception.place, place)
            with self.assertRaises(NoWord) as caught:
                least_places(row, BOOK, KINDS)
            self.assertEqual(caught.exception.place, place)
        for book, kinds in ((None, None), (BOOK, None), (None, KINDS)):
            for asked in (lambda: go_together(("plus", "f"), (), book, kinds), lambda: least_places(("plus", "f"), book, kinds)):
                with self.assertRaises(NoWord) as caught:
                    asked()
                self.assertEqual(caught.exception.place, (1,))

    def test_as_a_plain_search_finds(self):
        chance = random.Random(121)
        together = 0
        for row in typed_rows_in(122, 600):
            places = tuple([place for place in places_of(row) if chance.randrange(4)])
            told = asked_kind(row, places, TOLD) is not None
            self.assertIs(go_together(row, places, BOOK, KINDS), told, (show_row(row), places))
            together += told
            if told:
                lesser = tuple([place for place in places if chance.randrange(2)])
                self.assertIs(go_together(row, lesser, BOOK, KINDS), True)
        self.assertGreater(together, 150)
        self.assertLess(together, 550)


class LeastPlaces(unittest.TestCase):

    def told(self, text, *places):
        row = read_row(text)
        self.assertEqual(least_places(row, BOOK, KINDS), places, text)
        with self.assertRaises(NoKind) as caught:
            found_kind(row, BOOK, KINDS)
        self.assertEqual(caught.exception.places, places)

    def test_all_go_together(self):
        for text in ("", "plus", "1 [ plus ] do", "{ [ ] [ ab-ba ] }", "f g h", "[ [ [ [ [ [ 1 ] ] ] ] ] ]"):
            self.assertIsNone(least_places(read_row(text), BOOK, KINDS))
        self.assertIsNone(least_places(read_row("plus")))

    def test_next_to_each_other(self):
        self.told("1 do", (0,), (1,))
        self.told("2 1 do", (1,), (2,))
        self.told("2 1 do a- a-", (1,), (2,))
        self.told("{ 1 { } }", (0,))
        self.told("a-aa do", (0,), (1,))

    def test_within_a_pushed_row(self):
        self.told("1 [ 2 do ] do", (1, 0), (1, 1))
        self.told("{ 1 [ 2 do ] }", (0,))
        self.told("{ [ ] [ 2 do ] }", (0, 1, 0), (0, 1, 1))
        self.told("[ { { [ 2 do ] } } ]", (0, 0, 0, 0, 0), (0, 0, 0, 0, 1))

    def test_in_and_around_a_pushed_row(self):
        self.told("{ } [ 1 plus ] do", (0,), (1,), (1, 0), (1, 1), (2,))
        self.told("[ 1 ] repeat", (0,), (0, 0), (1,))
        self.told("[ 1 ] [ ] if", (0,), (0, 0), (1,), (2,))
        self.told("{ [ plus ] [ ] }", (0,), (0, 0, 0))

    def test_far_apart(self):
        self.told("{ } " + "1 " * 20 + "plus " * 20 + "a-", *[(at,) for at in range(41)])
        self.told("1 " + "[ ] " * 10 + "a- " * 10 + "do", *[(at,) for at in range(22)])

    def test_in_two_ways_at_once(self):
        self.told("1 do { } plus", (0,), (1,))
        self.told("{ } plus 1 do", (0,), (1,))
        self.told("[ 1 do ] { 1 { } }", (0, 0), (0, 1))
        self.told("1 { } plus", (1,), (2,))

    def test_told_words(self):
        self.told("h do", (0,), (1,))
        self.told("1 f { } g", (2,), (3,))

    def test_sixty_words(self):
        self.told("- " * 58 + "1 do", (58,), (59,))
        self.told("1 do" + " -" * 58, (0,), (1,))
        self.told("{ " + "[ plus ] " * 28 + "[ do ] }", (0,), (0, 0, 0), (0, 28, 0))

    def test_least_and_as_a_plain_search_finds(self):
        clashing = 0
        for row in typed_rows_in(123, 400):
            places = least_places(row, BOOK, KINDS)
            if places is None:
                self.assertIs(go_together(row, places_of(row), BOOK, KINDS), True)
                continue
            clashing += 1
            self.assertEqual(places, asked_least(row, TOLD), show_row(row))
            self.assertEqual(places, tuple(sorted(places)))
            self.assertIs(go_together(row, places, BOOK, KINDS), False)
            for place in places:
                lesser = tuple([other for other in places if other != place])
                self.assertIs(go_together(row, lesser, BOOK, KINDS), True)
        self.assertGreater(clashing, 100)

    def test_other_rows_in_which_these_words_stand_so(self):
        # The other words may be any: still there is no kind.
        row = read_row("2 1 do a- a-")
        for first in ("2", "[ ]", "plus", "-"):
            for last in ("a- a-", "7", "do do", ""):
                with self.assertRaises(NoKind):
                    found_kind(read_row((first + " 1 do " + last).strip()))
        self.assertEqual(least_places(row), ((1,), (2,)))
