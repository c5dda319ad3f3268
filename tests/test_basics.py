"""The kinds of the basic words and of shuffles."""

import unittest

from takeleave.basics import basic_kind
from takeleave.kinds import is_row_kind, told_form
from takeleave.kindtexts import show_kind
from takeleave.shuffles import shuffle_of
from takeleave.steps import takes_of
from takeleave.words import SORTS_TAKEN

WRITTEN = {
    "plus": "A number number -- A number",
    "minus": "A number number -- A number",
    "times": "A number number -- A number",
    "less": "A number number -- A number",
    "same": "A number number -- A number",
    "do": "A [ A -- B ] -- B",
    "dip": "A a [ A -- B ] -- B a",
    "if": "A number [ A -- B ] [ A -- B ] -- B",
    "while": "A [ A -- A number ] [ A -- A ] -- A",
    "repeat": "A number [ A -- A ] -- A",
    "join": "A [ B -- C ] [ C -- D ] -- A [ B -- D ]",
    "wrap": "A a -- A [ B -- B a ]",
    "put": "A { a } a -- A { a }",
    "part": "A { a } [ A a { a } -- B ] [ A -- B ] -- B",
    "each": "A { a } [ A a -- A ] -- A",
}


class BasicWords(unittest.TestCase):

    def test_just_as_written(self):
        self.assertEqual(sorted(WRITTEN), sorted(SORTS_TAKEN))
        for word, text in WRITTEN.items():
            self.assertEqual(show_kind(*basic_kind(word)), text, word)

    def test_as_many_things_as_the_word_takes(self):
        for word in WRITTEN:
            self.assertEqual(len(basic_kind(word)[0][1]), takes_of(word), word)

    def test_the_told_form(self):
        for word in list(WRITTEN) + ["-", "ab-ba", "abcdefgh-hgfedcba"]:
            self.assertIs(is_row_kind(basic_kind(word)), True)
            self.assertEqual(basic_kind(word), told_form(*basic_kind(word)), word)


class Shuffles(unittest.TestCase):

    def test_ordinary_ones(self):
        for shuffle, text in {
            "-": "A -- A",
            "a-": "A a -- A",
            "a-a": "A a -- A a",
            "a-aa": "A a -- A a a",
            "ab-ba": "A a b -- A b a",
            "ab-aba": "A a b -- A a b a",
            "abc-bca": "A a b c -- A b c a",
            "abc-": "A a b c -- A",
            "abcdefgh-": "A a b c d e f g h -- A",
            "abcdefgh-hhhhaaaadddd": "A a b c d e f g h -- A h h h h a a a a d d d d",
            "a-aaaaaaaaaaaa": "A a -- A a a a a a a a a a a a a",
        }.items():
            self.assertEqual(show_kind(*basic_kind(shuffle)), text, shuffle)

    def test_each_many_taken_and_left(self):
        for n in range(9):
            for many in range(13 if n else 1):
                picks = tuple([(at * at + at) % n for at in range(many)])
                take, leave = basic_kind(shuffle_of(n, picks))
                self.assertEqual(take, ("A", tuple([("open", "abcdefgh"[at]) for at in range(n)])))
                self.assertEqual(leave, ("A", tuple([("open", "abcdefgh"[pick]) for pick in picks])))
