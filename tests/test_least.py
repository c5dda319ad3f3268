"""Least rows of few shuffles."""

import itertools
import unittest

from takeleave.errors import TooMany
from takeleave.least import least_row
from takeleave.mapbooks import map_book, map_book_holds
from takeleave.maps import map_of
from takeleave.texts import read_row

FEWS = (
    ("ab-ba", "a-aa", "a-"),
    ("abc-bca", "ab-ba"),
    ("ab-aba", "ab-b", "ab-ba"),
    ("-", "a-a", "a-aa"),
    ("abc-cab", "ab-abab", "ab-a", "ab-b"),
)
SHUFFLES = ("-", "a-a", "ab-ab", "a-", "ab-", "a-aa", "a-aaa", "ab-ba", "abc-acb", "abc-cba", "abc-bca", "abc-cab",
            "abc-bac", "ab-b", "ab-a", "ab-aab", "ab-abb", "ab-bb", "abc-c", "ab-aba", "ab-bab", "ab-abab",
            "abcd-dcba", "abcd-abdc", "abcdefgh-")


def first_of_the_shortest(few, shuffle, most):
    """The least row, by going through all rows, the shortest and first ones first; None where there is none."""
    for many in range(most + 1):
        for row in itertools.product(few, repeat=many):
            if map_of(row) == map_of((shuffle,)):
                return row
    return None


class Least(unittest.TestCase):

    def test_against_all_rows(self):
        told_none = 0
        for few in FEWS:
            for shuffle in SHUFFLES:
                for most in range(5):
                    told = least_row(few, shuffle, most)
                    row = first_of_the_shortest(few, shuffle, most)
                    if row is None:
                        told_none += 1
                        self.assertEqual(told[0], "none", (few, shuffle, most))
                        self.assertEqual(len(told), 2)
                        self.assertIs(map_book_holds(few, most, told[1]), True)
                        self.assertNotIn(map_of((shuffle,)), [done for done, line in told[1]])
                        continue
                    self.assertEqual(told[:2], ("least", row), (few, shuffle, most))
                    self.assertEqual(len(told), 3)
                    if row == ():
                        self.assertIsNone(told[2])
                    else:
                        self.assertIs(map_book_holds(few, len(row) - 1, told[2]), True, (few, shuffle, most))
                        self.assertNotIn(map_of((shuffle,)), [done for done, line in told[2]])
        self.assertGreater(told_none, 50)

    def test_the_row_without_words(self):
        for few in FEWS:
            for shuffle in ("-", "a-a", "ab-ab", "abcdefgh-abcdefgh"):
                for most in (0, 1, 6):
                    self.assertEqual(least_row(few, shuffle, most), ("least", (), None))

    def test_the_first_by_the_numbers_in_few(self):
        for few, shuffle, text in (
            (("ab-ba", "abc-acb"), "ab-ba", "ab-ba"),
            (("abc-acb", "ab-ba"), "ab-ba", "abc-acb"),
            (("a-", "a-aa", "ab-"), "ab-", "ab-"),
            (("a-", "a-aa"), "ab-", "a- a-"),
            (("a-aa", "ab-aba"), "a-aaa", "a-aa a-aa"),
            (("ab-aba", "a-aa"), "a-aaa", "a-aa ab-aba"),
            (("abc-bca", "abc-cab", "ab-ba"), "abc-cba", "abc-cab ab-ba"),
            (("ab-ba", "abc-cab", "abc-bca"), "abc-cba", "ab-ba abc-bca"),
        ):
            told = least_row(few, shuffle, 4)
            self.assertEqual(told[:2], ("least", read_row(text)), (few, shuffle))

    def test_a_shuffle_written_wider(self):
        few = FEWS[0]
        for shuffle, wider in (("ab-ba", "abc-acb"), ("ab-ba", "abcdefgh-abcdefhg"), ("a-aa", "abc-abcc"), ("a-", "ab-a"),
                               ("-", "ab-ab")):
            self.assertEqual(least_row(few, shuffle, 3), least_row(few, wider, 3))

    def test_the_book_beside_it(self):
        told = least_row(("a-aa", "a-"), "a-aaaa", 6)
        self.assertEqual(told[:2], ("least", ("a-aa",) * 3))
        self.assertEqual(sorted(told[2]), sorted(map_book(("a-aa", "a-"), 2)))
        told = least_row(("a-aa", "a-"), "ab-ba", 4)
        self.assertEqual(told[0], "none")
        self.assertEqual(sorted(told[1]), sorted(map_book(("a-aa", "a-"), 4)))
        self.assertEqual(least_row(("a-",), "a-", 0), ("none", (((0, ()), ()),)))

    def test_just_so_many_words_as_most(self):
        few = ("a-",)
        for many in range(1, 7):
            shuffle = "abcdefgh"[:many] + "-"
            self.assertEqual(least_row(few, shuffle, many)[:2], ("least", ("a-",) * many))
            self.assertEqual(least_row(few, shuffle, many - 1)[0], "none")
        self.assertEqual(least_row(few, "abcdefg-", 6)[0], "none")


class Many(unittest.TestCase):

    # Rows of at most five words have 1,200 maps, those of six 3,286.
    few = ("abc-bca", "ab-bab", "ab-abab", "ab-b", "abc-b")

    def test_a_least_row_where_a_book_for_its_length_is_too_many(self):
        shorter = dict(map_book(self.few, 5))
        told_ones = 0
        for row in itertools.islice(itertools.product(self.few, repeat=6), 0, None, 97):
            n, picks = map_of(row)
            if (n, picks) in shorter or n > 8 or len(picks) > 12:
                continue
            shuffle = "abcdefgh"[:n] + "-" + "".join("abcdefgh"[pick] for pick in picks)
            told = least_row(self.few, shuffle, 6)
            told_ones += 1
            self.assertEqual((told[0], len(told[1]), map_of(told[1])), ("least", 6, (n, picks)))
            self.assertIs(map_book_holds(self.few, 5, told[2]), True)
            if told_ones == 4:
                break
        self.assertEqual(told_ones, 4)

    def test_too_many(self):
        for shuffle in ("abcdefgh-hgfedcba", "abcd-dcba", "a-aaaaaaaaaaaa"):
            self.assertEqual(least_row(self.few, shuffle, 5)[0], "none")
            with self.assertRaises(TooMany) as caught:
                least_row(self.few, shuffle, 6)
            self.assertEqual((caught.exception.many, caught.exception.most), (3286, 1200))

    def test_too_many_ahead_of_most(self):
        few = ("ab-bab", "abcd-badc", "abc-bca", "abc-cab", "abcd-dabc", "ab-a")
        for most in (5, 6):
            with self.assertRaises(TooMany) as caught:
                least_row(few, "abcdefgh-", most)
            self.assertEqual((caught.exception.many, caught.exception.most), (1206, 1200))
        self.assertEqual(least_row(few, "abcdefgh-", 4)[0], "none")
        self.assertEqual(least_row(few, "ab-a", 6)[:2], ("least", ("ab-a",)))

    def test_just_1200(self):
        few = ("abc-", "abcd-badc", "abc-bca", "a-aa")
        told = least_row(few, "abcdefgh-h", 6)
        self.assertEqual(told[0], "none")
        self.assertEqual(len(told[1]), 1200)
