"""Whether two rows are alike, parted or open."""

import unittest

from takeleave.alike import alike
from takeleave.maps import map_of, parting
from takeleave.runs import run
from takeleave.shorter import shorter
from takeleave.shuffles import is_shuffle
from takeleave.texts import read_row, read_stack, show_row
from takeleave.things import is_stack
from takeleave.turns import paper_holds
from tests.counted import STRIDE, WORDS, counted_rows, counted_stacks
from tests.test_shorter import STRETCHES

BOOK = (("f", None, read_row("1 plus")), ("none", None, ()), ("again", None, ("again",)), ("g", None, read_row("f f")),
        ("grow", None, ("grow", "f")))
SHUFFLES = ("-", "a-", "a-aa", "a-a", "ab-ba", "ab-ab", "abc-bca", "abc-cab", "ab-b", "ab-aba")

# Two rows and what is told of them, without the paper.
TOLD = (
    ("1 plus", "2 plus", "parted"),
    ("plus", "minus", "parted"),
    ("plus", "times", "parted"),
    ("less", "same", "parted"),
    ("1", "2", "parted"),
    ("1", "", "parted"),
    ("", "1", "parted"),
    ("f", "f f", "parted"),
    ("[ 1 ]", "[ 2 ]", "parted"),
    ("[ f ]", "[ 1 plus ]", "parted"),
    ("{ 1 }", "{ }", "parted"),
    ("3 same", "a- 0", "parted"),
    ("plus 4 same", "plus a- 0", "parted"),
    ("abcdefg-gfedcba plus", "abcdefg-gfedcba minus", "parted"),
    ("[ f ] repeat", "[ ] repeat", "parted"),
    ("[ a-aa ] [ 1 minus ] while", "", "parted"),
    ("ab-ba plus", "plus", "alike"),
    ("1 2 plus", "3", "alike"),
    ("3", "1 2 plus", "alike"),
    ("[ f ] dip [ g ] dip", "[ f g ] dip", "alike"),
    ("none 1 none", "1", "alike"),
    ("[ 1 ] dip", "1 ab-ba", "alike"),
    ("[ ] dip", "", "alike"),
    ("[ a-aa ] dip plus", "ab-aab plus", "alike"),
    ("f", "f", "alike"),
    ("again", "again", "alike"),
    ("nought", "nought", "alike"),
    ("again", "again again", "open"),
    ("again", "1", "open"),
    ("again", "1 2 plus again", "open"),
    ("grow", "again", "open"),
    ("1 do", "2 do", "open"),
    ("nought", "1", "open"),
    ("do", "dip", "open"),
    ("f", "1 plus", "open"),
    ("[ 1 ] [ ] while", "[ 2 ] [ ] while", "open"),
    ("999 [ 1 plus ] repeat", "999 plus", "open"),
    ("[ f ] a-aa join do", "[ f f ] do", "open"),
    # Numbers 0 to 4 alone are tried, and at most eight.
    ("4 same", "a- 0", "parted"),
    ("5 same", "a- 0", "open"),
    ("abcdefg- 1 plus", "abcdefg- 2 plus", "parted"),
    ("abcdefgh- 1 plus", "abcdefgh- 2 plus", "open"),
)


class Alike(unittest.TestCase):

    def told(self, one, other, book=BOOK):
        """What is told of two rows, and that it holds, either way about."""
        sorts = []
        for left, right in ((one, other), (other, one)):
            told = alike(left, right, book)
            texts = show_row(left), show_row(right)
            self.assertIsInstance(told, tuple)
            if told[0] == "alike":
                self.assertEqual(len(told), 2)
                self.assertIs(paper_holds(left, right, told[1], book), True, texts)
            elif told[0] == "parted":
                self.assertEqual(len(told), 2)
                self.assertIs(is_stack(told[1]), True)
                ends = [run(row, told[1], 400, book) for row in (left, right)]
                self.assertEqual([end[0] for end in ends], ["ended", "ended"], texts)
                self.assertNotEqual(ends[0][2], ends[1][2], texts)
                if not all(is_shuffle(word) for word in left + right):
                    self.assertLessEqual(len(told[1]), 8, texts)
                    self.assertLessEqual(set(told[1]), set(read_stack("0 1 2 3 4")), texts)
            else:
                self.assertEqual(told, ("open",))
            sorts.append(told[0])
        self.assertEqual(sorts[0], sorts[1])
        return alike(one, other, book)

    def test_ordinary_ones(self):
        for one, other, sort in TOLD:
            self.assertEqual(self.told(read_row(one), read_row(other))[0], sort, (one, other))

    def test_rows_of_shuffles(self):
        rows = [read_row("")] + [(word,) for word in SHUFFLES] + [
            (word, other) for word in SHUFFLES for other in SHUFFLES[::2]]
        sorts = set()
        for one in rows[::2]:
            for other in rows:
                told = self.told(one, other)
                sorts.add(told[0])
                self.assertEqual(told[0], "alike" if map_of(one) == map_of(other) else "parted")
                if told[0] == "parted":
                    self.assertEqual(told[1], parting(one, other), (one, other))
        self.assertEqual(sorts, {"alike", "parted"})

    def test_the_stack_on_which_shuffles_part(self):
        for one, other, stack in (("a-", "", "0"), ("ab-ba", "", "0 1"), ("ab-ba", "abc-cba", "0 1 2"),
                                  ("a-", "abcd-abcd", "0 1 2 3"), ("a-aa", "", "0"), ("a- a- a-", "ab-", "0 1 2"),
                                  ("abcdefgh- abcdefgh-", "a-", "0 1 2 3 4 5 6 7 8 9 10 11 12 13 14 15")):
            for left, right in ((one, other), (other, one)):
                self.assertEqual(alike(read_row(left), read_row(right)), ("parted", read_stack(stack)))

    def test_long_rows_of_shuffles(self):
        for one, other in ((("ab-ba",) * 60, ()), (("abc-bca",) * 60, ("-",)), (("a-aa", "a-") * 30, ("ab-ab",))):
            self.assertEqual(self.told(one, other)[0], "alike")
        self.assertEqual(self.told(("ab-ba",) * 59, ())[0], "parted")
        self.assertEqual(self.told(("abcdefgh-",) * 60, ("abcdefgh-",) * 59)[0], "parted")

    def test_rows_that_are_put_shorter_to_the_same_row(self):
        for text, rule, new, last in STRETCHES:
            self.assertEqual(self.told(read_row(text), read_row(last))[0], "alike", text)
            self.assertEqual(self.told(("f",) + read_row(text), ("f",) + read_row(last))[0], "alike", text)
        rows = counted_rows(60, WORDS, STRIDE * 1009)
        for row in rows:
            short = shorter(row, BOOK)[0]
            self.assertEqual(self.told(row, short)[0], "alike", show_row(row))
            self.assertEqual(self.told(("-",) + row, short + ("-",))[0], "alike", show_row(row))

    def test_a_row_and_itself(self):
        for row in counted_rows(80) + [read_row(one) for one, other, sort in TOLD]:
            self.assertEqual(self.told(row, row)[0], "alike", show_row(row))

    def test_without_a_book(self):
        for book in (None, ()):
            self.assertEqual(self.told(read_row("f 1"), read_row("f 2"), book), ("open",))
            self.assertEqual(self.told(read_row("1 2 plus f"), read_row("3 f"), book)[0], "alike")
            self.assertEqual(self.told(("none",), (), book), ("open",))
        self.assertEqual(alike(read_row("1"), read_row("2"))[0], "parted")
        self.assertEqual(self.told(("none",), ())[0], "alike")

    def test_steps_are_counted_to_400(self):
        for many, sort in ((398, "parted"), (399, "open")):
            # A told word of so many pushes that shorter does not put in place.
            book = (("far", None, (("push", ("number", 1)),) * many),)
            self.assertEqual(self.told(("far", "plus"), ("far", "minus"), book)[0], sort, many)

    def test_things_that_grow_without_end(self):
        for text in ("[ f ] 300 [ a-aa join ] repeat", "{ } 300 [ a-aa put ] repeat", "[ f ] 300 [ wrap ] repeat",
                     "[ ] 300 [ a-aa wrap join ] repeat", "1 300 [ a-aaaaaaaaaaaa ] repeat",
                     "[ 1 ] [ [ f ] a-aa join ] while"):
            self.assertEqual(self.told(read_row(text), read_row(text + " 1"))[0], "open", text)
        text = "[ f ] 8 [ a-aa join ] repeat"
        self.assertEqual(self.told(read_row(text), read_row(text + " 1"))[0], "parted")

    def test_rows_by_the_counter(self):
        rows = counted_rows(60) + counted_rows(40, WORDS[:16], STRIDE * 31)
        sorts = {"alike": 0, "parted": 0, "open": 0}
        for at, one in enumerate(rows):
            for other in (rows[(at * 7 + 3) % len(rows)], one + read_row("1"), one + ("-",)):
                told = self.told(one, other)
                sorts[told[0]] += 1
                if told[0] == "alike":
                    self.never_parted(one, other)
        self.assertGreater(min(sorts.values()), 10)

    def never_parted(self, one, other):
        for stack in counted_stacks(20):
            ends = [run(row, stack, 300, BOOK) for row in (one, other)]
            if {end[0] for end in ends} == {"ended"}:
                self.assertEqual(ends[0][2], ends[1][2])

    def test_what_is_handed_in_stays(self):
        one, other = read_row("none [ 1 2 plus ] do"), read_row("3")
        before = repr((one, other, BOOK))
        alike(one, other, BOOK)
        self.assertEqual(repr((one, other, BOOK)), before)
