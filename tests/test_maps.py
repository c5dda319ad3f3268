"""Shuffles as maps: least maps, what rows of shuffles do and need, and the stack on which they part."""

import random
import unittest

from takeleave.errors import NoShuffle
from takeleave.maps import least_map, map_of, need_of, parting
from takeleave.runs import run
from takeleave.shuffles import shuffle_of, taken_left
from takeleave.texts import read_row

# Texts of rows with words that are no shuffles.
OTHER_ROWS = ("plus", "f", "7", "[ ]", "{ }", "[ a- ]", "ab-ba do", "a-aa 1", "f a-", "a- a- a- wrap")


def numbers(many):
    return tuple([("number", number) for number in range(many)])


def shuffles_by(chance, many):
    """A row of so many shuffles, made by chance."""
    row = []
    for at in range(many):
        n = chance.choice((0, 1, 1, 2, 2, 3, 4, 8))
        most = chance.choice((n, n, n + 1, 12)) if n else 0
        row.append(shuffle_of(n, tuple([chance.randrange(n) for pick in range(min(most, 12))])))
    return tuple(row)


def things_done(row, many):
    """What a row of shuffles makes of the stack of so many numbers."""
    how, steps, (stack, todo) = run(row, numbers(many), len(row))
    return how, tuple([n for sort, n in stack])


class LeastMap(unittest.TestCase):

    def test_ordinary_ones(self):
        for n, picks, told in (
            (0, (), (0, ())),
            (1, (), (1, ())),
            (1, (0,), (0, ())),
            (1, (0, 0), (1, (0, 0))),
            (2, (1, 0), (2, (1, 0))),
            (2, (0, 1), (0, ())),
            (2, (0,), (1, ())),
            (2, (1,), (2, (1,))),
            (2, (), (2, ())),
            (2, (0, 1, 0), (2, (0, 1, 0))),
            (2, (0, 1, 1), (1, (0, 0))),
            (3, (0, 2, 1), (2, (1, 0))),
            (3, (1, 2), (3, (1, 2))),
            (3, (0, 1), (1, ())),
            (3, (0, 1, 0), (3, (0, 1, 0))),
            (3, (0, 1, 2, 0), (3, (0, 1, 2, 0))),
            (3, (0, 1, 2, 1), (2, (0, 1, 0))),
            (3, (0, 0, 1, 2), (3, (0, 0, 1, 2))),
            (3, (0, 2, 1, 2), (2, (1, 0, 1))),
            (4, (0, 1, 3, 2), (2, (1, 0))),
            (4, (0, 2, 1, 3), (3, (1, 0, 2))),
        ):
            self.assertEqual(least_map(n, picks), told, (n, picks))

    def test_least_ones_stay(self):
        chance = random.Random(101)
        for at in range(300):
            n = chance.randrange(6)
            picks = tuple([chance.randrange(n) for pick in range(chance.randrange(7) if n else 0)])
            least = least_map(n, picks)
            self.assertEqual(least_map(*least), least)
            self.assertTrue(least[1][:1] != (0,) or 0 in least[1][1:])
            # Cut by cut it comes to the same.
            while picks[:1] == (0,) and 0 not in picks[1:]:
                n, picks = n - 1, tuple([pick - 1 for pick in picks[1:]])
            self.assertEqual(least, (n, picks))

    def test_great_ones(self):
        self.assertEqual(least_map(2000, tuple(range(2000))), (0, ()))
        self.assertEqual(least_map(2000, tuple(range(2000)) + (0,)), (2000, tuple(range(2000)) + (0,)))
        self.assertEqual(least_map(2000, tuple(range(2000)) + (1999,)), (1, (0, 0)))


class Rows(unittest.TestCase):

    def test_ordinary_ones(self):
        for text, least, need in (
            ("", (0, ()), 0),
            ("-", (0, ()), 0),
            ("a-a", (0, ()), 1),
            ("ab-ab", (0, ()), 2),
            ("a-", (1, ()), 1),
            ("a- a-", (2, ()), 2),
            ("a-aa", (1, (0, 0)), 1),
            ("a-aa a-", (0, ()), 1),
            ("ab-ba", (2, (1, 0)), 2),
            ("ab-ba ab-ba", (0, ()), 2),
            ("abc-bca abc-bca abc-bca", (0, ()), 3),
            ("abc-bca abc-bca", (3, (2, 0, 1)), 3),
            ("ab-aba a-", (0, ()), 2),
            ("a- ab-ba", (3, (1, 0)), 3),
            ("a-aa ab-ba", (1, (0, 0)), 1),
            ("a-aa a-aa", (1, (0, 0, 0)), 1),
            ("ab-a a-", (2, ()), 2),
            ("ab-b", (2, (1,)), 2),
            ("a-aa abc-abc", (1, (0, 0)), 2),
            ("abcdefgh-h", (8, (7,)), 8),
            ("- - a-", (1, ()), 1),
        ):
            self.assertEqual(map_of(read_row(text)), least, text)
            self.assertEqual(need_of(read_row(text)), need, text)

    def test_as_the_steps_do(self):
        chance = random.Random(102)
        for many in list(range(61)) * 3:
            row = shuffles_by(chance, many)
            need = need_of(row)
            how, left = things_done(row, need)
            self.assertEqual(how, "ended")
            if need:
                self.assertEqual(things_done(row, need - 1)[0], "fault")
            self.assertEqual(map_of(row), least_map(need, left))
            # What lies beneath stays, and the least map tells the same of it.
            n, picks = map_of(row)
            kept = tuple(range(need + 3 - n))
            self.assertEqual(things_done(row, need + 3)[1], kept + tuple([need + 3 - n + pick for pick in picks]))

    def test_a_shuffle_alone(self):
        chance = random.Random(103)
        for word in shuffles_by(chance, 300):
            n, picks = taken_left(word)
            self.assertEqual(need_of((word,)), n)
            self.assertEqual(map_of((word,)), least_map(n, picks))

    def test_other_words(self):
        for text in OTHER_ROWS:
            for asked in (map_of, need_of):
                with self.assertRaises(NoShuffle):
                    asked(read_row(text))
        for text in ("a-b", "", "ba-", "A"):
            for asked in (map_of, need_of):
                with self.assertRaises(NoShuffle):
                    asked(("a-", text))


class Parting(unittest.TestCase):

    def test_alike(self):
        for one, other in (("", ""), ("", "-"), ("a-a", ""), ("ab-ba ab-ba", "abc-abc"), ("a-aa ab-ba", "a-aa"),
                           ("a- a-", "ab-"), ("ab-aba a-", "-"), ("abc-bca abc-bca", "abc-cab")):
            self.assertIsNone(parting(read_row(one), read_row(other)), (one, other))
            self.assertIsNone(parting(read_row(other), read_row(one)), (other, one))

    def test_parted(self):
        for one, other, many in (("a-", "", 1), ("a-aa", "", 1), ("ab-ba", "", 2), ("ab-ba", "abc-cba", 3),
                                 ("a-", "abcd-abcd", 4), ("a-aa", "ab-aba", 2), ("ab-a", "ab-b", 2), ("a-", "ab-", 2)):
            for parted in (parting(read_row(one), read_row(other)), parting(read_row(other), read_row(one))):
                self.assertEqual(parted, numbers(many), (one, other))

    def test_as_the_steps_do(self):
        chance = random.Random(104)
        parted = 0
        for at in range(600):
            one, other = shuffles_by(chance, chance.randrange(4)), shuffles_by(chance, chance.randrange(4))
            many = max(need_of(one), need_of(other))
            stack = parting(one, other)
            ends = things_done(one, many), things_done(other, many)
            self.assertEqual([how for how, left in ends], ["ended", "ended"])
            self.assertEqual(stack is None, ends[0] == ends[1])
            self.assertEqual(stack is None, map_of(one) == map_of(other))
            if stack is not None:
                parted += 1
                self.assertEqual(stack, numbers(many))
        self.assertGreater(parted, 200)
        self.assertLess(parted, 600)

    def test_other_words(self):
        for text in OTHER_ROWS:
            for one, other in ((text, "a-"), ("a-", text), (text, text), (text, ""), ("", text)):
                with self.assertRaises(NoShuffle):
                    parting(read_row(one), read_row(other))
