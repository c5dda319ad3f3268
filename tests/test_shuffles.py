"""Shuffles."""

import unittest

from takeleave.errors import NoShuffle
from takeleave.shuffles import is_shuffle, shuffle_of, taken_left
from tests.samples import oddities

LETTERS = "abcdefgh"


class IsShuffle(unittest.TestCase):

    def tells(self, truth, *values):
        for value in values:
            self.assertIs(is_shuffle(value), truth, repr(value)[:200])

    def test_those_of_the_document(self):
        self.tells(True, "a-aa", "a-", "ab-ba", "abc-bca", "ab-aba", "-")

    def test_none_to_eight_taken(self):
        self.tells(True, *[LETTERS[:n] + "-" for n in range(9)])
        self.tells(True, *[LETTERS[:n] + "-" + LETTERS[:n] for n in range(9)])
        self.tells(False, "abcdefghi-", "abcdefghi-i", "abcdefgha-")

    def test_none_to_twelve_left(self):
        self.tells(True, *["a-" + "a" * n for n in range(13)])
        self.tells(True, "abcdefgh-abcdefghabcd", "abcdefgh-hhhhhhhhhhhh")
        self.tells(False, "a-" + "a" * 13, "abcdefgh-abcdefghabcde", "a-" + "a" * 40)

    def test_a_letter_that_is_not_taken(self):
        self.tells(False, "-a", "a-b", "a-ab", "ab-abc", "abcdefg-h", "abcdefgh-i", "a-A", "a-1", "ab- a", "a-a ")

    def test_letters_out_of_order(self):
        self.tells(False, "b-b", "ba-ab", "ac-ac", "aab-a", "aa-a", "bcd-b", "A-A", "z-z")

    def test_no_stroke_and_two_strokes(self):
        self.tells(False, "", "a", "ab", "abcdefgh", "--", "a--", "a-a-", "-a-a", "a--a", "---", "- ", " -", "-\n")

    def test_anything(self):
        self.tells(False, *oddities())
        self.tells(False, b"a-a", ("a", "a"), ["a-a"], ("a-a",), 0, None, True)


class TakenLeft(unittest.TestCase):

    def test_what_is_no_shuffle(self):
        for text in ("", "a", "a-b", "ba-", "plus", "a--"):
            with self.assertRaises(NoShuffle):
                taken_left(text)
        for n, picks in ((0, (0,)), (1, (1,)), (2, (0, 1, 2)), (2, (-1,)), (-1, ())):
            with self.assertRaises(NoShuffle):
                shuffle_of(n, picks)

    def test_as_it_is_written(self):
        for shuffle, pair in {
            "-": (0, ()),
            "a-": (1, ()),
            "a-a": (1, (0,)),
            "a-aa": (1, (0, 0)),
            "ab-ba": (2, (1, 0)),
            "abc-bca": (3, (1, 2, 0)),
            "ab-aba": (2, (0, 1, 0)),
            "ab-ab": (2, (0, 1)),
            "abcdefgh-hgfedcbahgfe": (8, (7, 6, 5, 4, 3, 2, 1, 0, 7, 6, 5, 4)),
        }.items():
            self.assertEqual(taken_left(shuffle), pair)
            self.assertEqual(shuffle_of(*pair), shuffle)

    def test_they_lead_to_one_another(self):
        for n in range(9):
            for picks in ((), tuple(range(n)), tuple(range(n))[::-1], tuple(range(n))[-1:] * 12, (0,) * min(n, 1)):
                shuffle = shuffle_of(n, picks)
                self.assertIs(is_shuffle(shuffle), True)
                self.assertEqual(taken_left(shuffle), (n, picks))

    def test_too_many_letters(self):
        self.assertEqual(shuffle_of(8, ()), "abcdefgh-")
        self.assertEqual(shuffle_of(1, (0,) * 12), "a-aaaaaaaaaaaa")
        for n, picks in ((9, ()), (9, (8,)), (9, (0,)), (1, (0,) * 13), (8, tuple(range(8)) * 2), (30, (29,)),
                         (9, (0,) * 13)):
            with self.assertRaises(NoShuffle):
                shuffle_of(n, picks)
