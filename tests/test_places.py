"""Places of words, and the word at a place."""

import unittest

from takeleave.places import places_of, word_at
from takeleave.texts import read_row
from takeleave.things import words_in
from tests.oracle import texts_in
from tests.samples import rows_in


def shown(text):
    """The places of a row that is written so."""
    return places_of(read_row(text))


class Places(unittest.TestCase):

    def test_a_row_without_words(self):
        self.assertEqual(places_of(()), ())

    def test_words_of_the_row_itself(self):
        self.assertEqual(shown("plus a- f 7"), ((0,), (1,), (2,), (3,)))

    def test_words_in_pushed_rows(self):
        self.assertEqual(shown("[ plus [ minus ] ] do [ ]"), ((0,), (0, 0), (0, 1), (0, 1, 0), (1,), (2,)))

    def test_words_in_pushed_lists(self):
        self.assertEqual(shown("{ } { 1 2 } { 1 [ plus do ] [ ] [ f ] }"),
                         ((0,), (1,), (2,), (2, 1, 0), (2, 1, 1), (2, 3, 0)))

    def test_words_in_lists_in_lists(self):
        self.assertEqual(shown("do { { } { 1 [ plus ] { [ f g ] } } [ { [ do ] } ] }"),
                         ((0,), (1,), (1, 1, 1, 0), (1, 1, 2, 0, 0), (1, 1, 2, 0, 1), (1, 2, 0), (1, 2, 0, 0, 0)))

    def test_more_than_ten(self):
        self.assertEqual(shown("plus " * 11 + "plus"), tuple([(at,) for at in range(12)]))

    def test_in_order_and_as_many_as_words(self):
        for row in rows_in(71, 200):
            places = places_of(row)
            self.assertEqual(places, tuple(sorted(set(places))))
            self.assertEqual(len(places), words_in(row))

    def test_very_deep(self):
        row = ()
        for at in range(1500):
            row = (("push", ("row", row)),) if at % 2 else (("push", ("list", (("row", row),))),)
        self.assertEqual(len(places_of(row)), 1500)
        last = places_of(row)[-1]
        self.assertEqual((len(last), word_at(row, last)), (2249, ("push", ("list", (("row", ()),)))))


class WordAt(unittest.TestCase):

    def test_each_word(self):
        row = read_row("do { 7 { 1 [ plus ] } [ { [ f a- ] } times ] } [ minus [ less ] ]")
        told = {place: word_at(row, place) for place in places_of(row)}
        self.assertEqual(told, {
            (0,): "do",
            (1,): row[1],
            (1, 1, 1, 0): "plus",
            (1, 2, 0): ("push", ("list", (("row", ("f", "a-")),))),
            (1, 2, 0, 0, 0): "f",
            (1, 2, 0, 0, 1): "a-",
            (1, 2, 1): "times",
            (2,): row[2],
            (2, 0): "minus",
            (2, 1): ("push", ("row", ("less",))),
            (2, 1, 0): "less",
        })

    def test_texts_that_are_no_words(self):
        self.assertEqual(word_at(("", ("push", ("row", ("a-b",)))), (1, 0)), "a-b")
        self.assertEqual(places_of(("", ("push", ("row", ("a-b", ""))))), ((0,), (1,), (1, 0), (1, 1)))

    def test_the_words_in_order_are_those_of_the_text(self):
        for row in rows_in(72, 100):
            texts = [word_at(row, place) for place in places_of(row)]
            self.assertEqual([word for word in texts if isinstance(word, str)], texts_in(("row", row)))
