"""Books of maps for few shuffles."""

import itertools
import unittest

from takeleave.errors import TooMany
from takeleave.mapbooks import map_book, map_book_holds
from takeleave.maps import least_map, map_of
from tests.oracle import things_done
from tests.samples import Touchy, oddities

# Few shuffles, and how great most may be where all rows are gone through.
FEWS = (
    (("-",), 6),
    (("a-",), 6),
    (("a-aa",), 6),
    (("abc-bca",), 6),
    (("a-aaaaaaaaaaaa",), 3),
    (("abcdefgh-hgfedcbahgfe",), 3),
    (("a-", "a-aa"), 6),
    (("ab-ba", "abc-bca"), 6),
    (("a-a", "ab-b"), 6),
    (("ab-ba", "a-aa", "a-"), 5),
    (("ab-ba", "abc-acb", "-"), 6),
    (("abc-cab", "ab-abab", "ab-a", "ab-b"), 4),
    (("ab-ba", "abcd-bcda", "abc-bca", "a-a", "abcd-dcba"), 4),
    (("ab-ba", "a-aa", "a-", "abc-bca", "ab-aba", "-"), 3),
)
JUST = ("abc-", "abcd-badc", "abc-bca", "a-aa")
MORE = ("abc-bca", "ab-bab", "ab-abab", "ab-b", "abc-b")


def all_maps(few, most):
    """The least maps of all rows of few of at most so many words, each with the length of its shortest row."""
    lengths = {}
    for many in range(most + 1):
        for row in itertools.product(few, repeat=many):
            lengths.setdefault(plain_map(row), many)
    return lengths


def plain_map(row):
    """The least map of a row of shuffles, by what it does on numbers."""
    many = 8 * len(row)
    return least_map(many, tuple(things_done(row, many)))


class Books(unittest.TestCase):

    def test_each_map_once_with_a_shortest_row(self):
        for few, greatest in FEWS:
            for most in range(greatest + 1):
                lengths = all_maps(few, most)
                book = map_book(few, most)
                self.assertEqual({done for done, row in book}, set(lengths), (few, most))
                self.assertEqual(len(book), len(lengths), (few, most))
                for done, row in book:
                    self.assertEqual(plain_map(row), done)
                    self.assertEqual(len(row), lengths[done], (few, most, done))
                    self.assertLessEqual(set(row), set(few))

    def test_form(self):
        self.assertEqual(map_book(("a-",), 0), (((0, ()), ()),))
        self.assertEqual(sorted(map_book(("a-",), 2)), [((0, ()), ()), ((1, ()), ("a-",)), ((2, ()), ("a-", "a-"))])
        for few, greatest in FEWS:
            for line in map_book(few, greatest):
                self.assertIsInstance(line, tuple)
                done, row = line
                n, picks = done
                self.assertIs(type(n), int)
                self.assertEqual((type(done), type(picks), type(row)), (tuple, tuple, tuple))

    def test_let_by(self):
        for few, greatest in FEWS:
            for most in range(greatest + 1):
                self.assertIs(map_book_holds(few, most, map_book(few, most)), True, (few, most))

    def test_for_another_most_and_others_of_few(self):
        for few, greatest in FEWS:
            for most in range(greatest):
                book, greater = map_book(few, most), map_book(few, most + 1)
                closed = len(book) == len(greater)
                self.assertIs(map_book_holds(few, most + 1, book), closed, (few, most))
                self.assertIs(map_book_holds(few, most, greater), closed, (few, most))
                if not closed:
                    self.assertIs(map_book_holds(few + ("abcdefgh-",), most + 1, greater), False)
        self.assertIs(map_book_holds(("a-",), 2, map_book(("a-aa",), 2)), False)

    def test_other_shortest_rows_and_another_order(self):
        for few, greatest in FEWS[6:]:
            other = [(done, self.last_of_the_shortest(few, done, len(row))) for done, row in map_book(few, 3)]
            self.assertIs(map_book_holds(few, 3, tuple(other)), True, few)
            self.assertIs(map_book_holds(few, 3, tuple(other[::-1])), True, few)
            self.assertIs(map_book_holds(few, 3, tuple(other[3:] + other[:3])), True, few)
            self.assertIs(map_book_holds(few, 3, map_book(few[::-1], 3)), True, few)

    def last_of_the_shortest(self, few, done, many):
        return [row for row in itertools.product(few, repeat=many) if map_of(row) == done][-1]


class Spoilt(unittest.TestCase):

    few = ("ab-ba", "a-aa", "a-")
    most = 3

    def setUp(self):
        self.book = map_book(self.few, self.most)

    def refused(self, book, most=None):
        self.assertIs(map_book_holds(self.few, self.most if most is None else most, book), False, book)

    def with_line(self, at, line):
        return self.book[:at] + (line,) + self.book[at + 1:]

    def test_a_line_left_out_or_twice(self):
        for at in range(len(self.book)):
            self.refused(self.book[:at] + self.book[at + 1:])
            self.refused(self.book + (self.book[at],))
            self.refused(self.book[:at] + (self.book[at],) + self.book[at:])
        self.refused(())

    def test_one_line_more(self):
        maps = {done for done, row in self.book}
        for row in itertools.product(self.few, repeat=4):
            if map_of(row) not in maps:
                self.refused(self.book + ((map_of(row), row),))
        for line in (((0, ()), ("ab-ba", "ab-ba")), ((1, ()), ("ab-ba", "ab-ba", "a-")), ((9, ()), ("a-",) * 3)):
            self.refused(self.book + (line,))

    def test_a_map_that_is_not_least(self):
        for at, ((n, picks), row) in enumerate(self.book):
            wider = (n + 1, (0,) + tuple([pick + 1 for pick in picks]))
            self.refused(self.with_line(at, (wider, row)))
            self.refused(self.book + ((wider, row),))

    def test_another_map_or_row(self):
        for at, (done, row) in enumerate(self.book):
            other_done, other_row = self.book[(at + 1) % len(self.book)]
            self.refused(self.with_line(at, (other_done, row)))
            self.refused(self.with_line(at, (done, other_row)))
            self.refused(self.with_line(at, ((done[0] + 1, done[1]), row)))
            self.refused(self.with_line(at, ((-done[0] - 1, done[1]), row)))
            self.refused(self.with_line(at, ((done[0], done[1] + (0,)), row)))

    def test_a_row_of_another_word(self):
        for at, (done, row) in enumerate(self.book):
            for word in ("abc-acb", "ab-b", "plus", "f", "", "a-b", ("push", ("number", 1)), None, Touchy()):
                self.refused(self.with_line(at, (done, row + (word,))))
                self.refused(self.with_line(at, (done, (word,) + row[1:])))
        # The same map by a word that is not of few.
        book = map_book(("ab-ba",), 1)
        self.assertIs(map_book_holds(("ab-ba",), 1, book), True)
        self.assertIs(map_book_holds(("ab-ba",), 1, (book[0], (book[1][0], ("abc-acb",)))), False)

    def test_rows_that_are_too_long(self):
        for at, (done, row) in enumerate(self.book):
            self.refused(self.with_line(at, (done, row + ("ab-ba",) * 4)))
        # One that is not the shortest, though within most: a row one shorter leads to it.
        lengths = {done: row for done, row in self.book}
        self.assertEqual(lengths[(1, ())], ("a-",))
        at = self.book.index(((1, ()), ("a-",)))
        self.refused(self.with_line(at, ((1, ()), ("a-aa", "a-", "a-"))))
        at = self.book.index(((0, ()), ()))
        self.refused(self.with_line(at, ((0, ()), ("ab-ba", "ab-ba"))))

    def test_truths_in_the_place_of_numbers(self):
        for at, ((n, picks), row) in enumerate(self.book):
            if n in (0, 1):
                self.refused(self.with_line(at, ((bool(n), picks), row)))
            for where, pick in enumerate(picks):
                if pick in (0, 1):
                    truths = picks[:where] + (bool(pick),) + picks[where + 1:]
                    self.refused(self.with_line(at, ((n, truths), row)))

    def test_lists_in_the_place_of_tuples(self):
        self.refused(list(self.book))
        for at, ((n, picks), row) in enumerate(self.book):
            for line in ([(n, picks), row], ([n, picks], row), ((n, list(picks)), row), ((n, picks), list(row))):
                self.refused(self.with_line(at, line))

    def test_anything(self):
        for odd in oddities():
            for book in (odd, (odd,), self.book + (odd,), self.with_line(0, odd), self.with_line(1, ((0, ()), odd)),
                         self.with_line(1, (odd, ("a-",))), self.with_line(1, ((odd, ()), ("a-",))),
                         self.with_line(1, ((1, odd), ("a-",))), self.with_line(1, ((1, (odd,)), ("a-",))),
                         self.with_line(1, ((1, ()), (odd,)))):
                self.refused(book)
        for at, (done, row) in enumerate(self.book):
            for line in ((done,), (done, row, ()), (row, done), (done[0], done[1], row), ((done, row),)):
                self.refused(self.with_line(at, line))
            for wrong in (done[:1], done + (0,), (done[1], done[0])):
                self.refused(self.with_line(at, (wrong, row)))

    def test_what_is_handed_in_stays(self):
        before = repr(self.book)
        map_book_holds(self.few, self.most, self.book)
        self.assertEqual(repr(self.book), before)


class Many(unittest.TestCase):

    def test_just_1200(self):
        book = map_book(JUST, 6)
        self.assertEqual(len(book), 1200)
        self.assertIs(map_book_holds(JUST, 6, book), True)
        self.assertIs(map_book_holds(JUST, 6, book[:-1]), False)
        self.assertEqual(len(map_book(MORE, 5)), 1200)

    def test_more(self):
        for few, k, many in ((MORE, 6, 3286), (("ab-aab", "abc-abca", "a-a", "abc-cab", "ab-ba"), 6, 1201),
                             (("ab-bab", "abcd-badc", "abc-bca", "abc-cab", "abcd-dabc", "ab-a"), 5, 1206)):
            for most in range(k, 7):
                with self.assertRaises(TooMany) as caught:
                    map_book(few, most)
                self.assertEqual((caught.exception.many, caught.exception.most), (many, 1200), (few, most))
            self.assertIs(map_book_holds(few, k - 1, map_book(few, k - 1)), True)

    def test_many_is_all_counted(self):
        few = ("ab-bab", "abcd-badc", "abc-bca", "abc-cab", "abcd-dabc", "ab-a")
        maps = {(0, ()): ()}
        for many in range(5):
            for row in [row for row in maps.values() if len(row) == many]:
                for word in few:
                    maps.setdefault(plain_map(row + (word,)), row + (word,))
        self.assertEqual(len(maps), 1206)

    def test_a_book_of_more_maps_holds(self):
        maps = {(0, ()): ()}
        for many in range(6):
            for row in [row for row in maps.values() if len(row) == many]:
                for word in MORE:
                    maps.setdefault(map_of(row + (word,)), row + (word,))
        self.assertEqual(len(maps), 3286)
        self.assertIs(map_book_holds(MORE, 6, tuple(maps.items())), True)
        self.assertIs(map_book_holds(MORE, 6, tuple(maps.items())[:-1]), False)
