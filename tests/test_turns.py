"""Rows that may be entered, turns, and papers."""

import unittest

from takeleave.errors import NoTurn
from takeleave.shorter import shorter
from takeleave.texts import read_row, show_row
from takeleave.things import is_row
from takeleave.turns import may_enter, paper_holds, turned, turned_back
from tests.counted import counted_rows
from tests.oracle import plain_may_enter, plain_paper, plain_turned
from tests.samples import Touchy, oddities

BOOK = (("f", None, read_row("1 plus")), ("none", None, ()), ("g", None, read_row("f [ f ] do")))

# A row, and the numbers of the words at which it may be entered.
ENTERED = (
    ("", ()),
    ("[ 1 ] do", (0,)),
    ("[ 1 ] dip", (0,)),
    ("[ 1 ] repeat", (0,)),
    ("[ 1 ] each", (0,)),
    ("[ ] do", (0,)),
    ("[ 1 ] [ 2 ] if", (0, 1)),
    ("[ 1 ] [ 2 ] while", (0, 1)),
    ("[ 1 ] [ 2 ] part", (0, 1)),
    ("[ 1 ] [ 2 ] do", (1,)),
    ("[ 1 ] [ 2 ] dip", (1,)),
    ("[ 1 ] [ 2 ] repeat", (1,)),
    ("[ 1 ] [ 2 ] each", (1,)),
    ("[ 1 ] [ 2 ] [ 3 ] if", (1, 2)),
    ("[ 1 ] [ 2 ] [ 3 ] [ 4 ] part", (2, 3)),
    ("[ 1 ] if", ()),
    ("[ 1 ] while", ()),
    ("[ 1 ] part", ()),
    ("1 [ 2 ] if", ()),
    ("[ 1 ] 2 if", ()),
    ("{ 1 } [ 2 ] while", ()),
    ("[ 1 ] { 2 } part", ()),
    ("a-aa [ 2 ] if", ()),
    ("[ 1 ] a-aa if", ()),
    ("[ 1 ] join", ()),
    ("[ 1 ] [ 2 ] join", ()),
    ("[ 1 ] put", ()),
    ("[ 1 ] wrap", ()),
    ("[ 1 ] a-aa", ()),
    ("[ 1 ] - do", ()),
    ("[ 1 ] f", ()),
    ("[ 1 ] plus", ()),
    ("[ 1 ] 2 do", ()),
    ("[ 1 ] [ 2 ]", ()),
    ("[ 1 ]", ()),
    ("1 do", ()),
    ("{ [ 1 ] } each", ()),
    ("{ 1 } do", ()),
    ("1 do dip each", ()),
    ("do [ 1 ]", ()),
    ("plus [ 1 ] do [ 2 ] [ 3 ] if [ 4 ]", (1, 3, 4)),
)

# A row, a turn (place, many, rule, and the text of what is new), and what the row is turned to.
TURNED = (
    ("1 2 plus", ((0,), 3, "stepped", "3"), "3"),
    ("9 1 2 plus a-", ((1,), 3, "stepped", "3"), "9 3 a-"),
    ("9 1 2 plus", ((0,), 4, "stepped", "9 3"), "9 3"),
    ("3", ((0,), 1, "stepped", "1 2 plus"), "1 2 plus"),
    ("f a-", ((0,), 1, "stepped", "1 plus"), "1 plus a-"),
    ("a- f", ((1,), 1, "stepped", "1 plus"), "a- 1 plus"),
    ("1 plus", ((0,), 2, "stepped", "f"), "f"),
    ("", ((0,), 0, "mapped", "ab-ba ab-ba"), "ab-ba ab-ba"),
    ("", ((0,), 0, "mapped", ""), ""),
    ("", ((0,), 0, "stepped", "none"), "none"),
    ("plus", ((0,), 0, "mapped", "-"), "- plus"),
    ("plus", ((1,), 0, "mapped", "-"), "plus -"),
    ("1 2", ((1,), 0, "mapped", "a-a"), "1 a-a 2"),
    ("1 2", ((2,), 0, "stepped", "[ ] do"), "1 2 [ ] do"),
    ("1 2", ((1,), 0, "stepped", "0 [ f ] repeat"), "1 0 [ f ] repeat 2"),
    ("ab-ba plus", ((0,), 2, "turned", "plus"), "plus"),
    ("1 plus", ((1,), 1, "turned", "ab-ba plus"), "1 ab-ba plus"),
    ("[ 1 ] dip", ((0,), 2, "beneath", "1 ab-ba"), "1 ab-ba"),
    ("[ a- ] dip [ f ] dip 1", ((0,), 4, "dips", "[ a- f ] dip"), "[ a- f ] dip 1"),
    ("[ a- ] dip", ((0,), 2, "slid", "ab-b"), "ab-b"),
    ("[ ] dip", ((0,), 2, "emptied", "a-a"), "a-a"),
    ("[ 1 2 plus ] do", ((0, 0), 3, "stepped", "3"), "[ 3 ] do"),
    ("[ 1 2 plus ] dip", ((0, 0), 3, "stepped", "3"), "[ 3 ] dip"),
    ("5 [ 1 2 plus ] repeat 6", ((1, 0), 3, "stepped", "3"), "5 [ 3 ] repeat 6"),
    ("[ 0 1 2 plus f ] each", ((0, 1), 3, "stepped", "3"), "[ 0 3 f ] each"),
    ("[ f ] [ plus ] if", ((0, 0), 1, "stepped", "1 plus"), "[ 1 plus ] [ plus ] if"),
    ("[ f ] [ plus ] if", ((1, 0), 1, "turned", "ab-ba plus"), "[ f ] [ ab-ba plus ] if"),
    ("[ f ] [ plus ] while", ((1, 1), 0, "mapped", "-"), "[ f ] [ plus - ] while"),
    ("[ f ] [ plus ] part", ((0, 1), 0, "mapped", "-"), "[ f - ] [ plus ] part"),
    ("[ ] do", ((0, 0), 0, "stepped", "[ ] do"), "[ [ ] do ] do"),
    ("[ a- [ 1 [ ab-ba ab-ba ] [ ] if ] do ] do f", ((0, 1, 1, 0), 2, "mapped", ""),
     "[ a- [ 1 [ ] [ ] if ] do ] do f"),
    ("[ 1 [ 2 [ 3 f ] each ] repeat ] dip", ((0, 1, 1, 1), 1, "stepped", "1 plus"),
     "[ 1 [ 2 [ 3 1 plus ] each ] repeat ] dip"),
)

# A row and a turn that there is not, with what is new as a text.
NOT_TURNED = (
    # A place that is too long, too short, empty, of no word, behind the end, below 0.
    ("1 2 plus", ((0, 0), 3, "stepped", "3")),
    ("[ 1 2 plus ] do", ((0,), 3, "stepped", "3")),
    ("[ 1 2 plus ] do", ((0, 0, 0), 3, "stepped", "3")),
    ("1 2 plus", ((), 3, "stepped", "3")),
    ("1 2 plus", ((3,), 3, "stepped", "3")),
    ("1 2 plus", ((4,), 0, "mapped", "")),
    ("1 2 plus", ((10 ** 40,), 0, "mapped", "")),
    ("1 2 plus", ((-3,), 3, "stepped", "3")),
    ("1 2 plus", ((-1,), 0, "mapped", "")),
    ("1 2 plus", ((-4,), 0, "mapped", "")),
    ("[ 1 2 plus ] do", ((-2, 0), 3, "stepped", "3")),
    ("[ 1 2 plus ] do", ((0, -3), 3, "stepped", "3")),
    ("[ 1 2 plus ] do", ((1, 0), 0, "mapped", "")),
    ("[ 1 2 plus ] do", ((2, 0), 0, "mapped", "")),
    ("[ 1 2 plus ] do", ((5, 0), 0, "mapped", "")),
    ("[ 1 2 plus ] do", ((0, 4), 0, "mapped", "")),
    # Truths in the place of numbers.
    ("1 2 plus", ((False,), 3, "stepped", "3")),
    ("9 1 2 plus", ((True,), 3, "stepped", "3")),
    ("[ 1 2 plus ] do", ((False, 0), 3, "stepped", "3")),
    ("[ 1 2 plus ] do", ((0, False), 3, "stepped", "3")),
    ("f", ((0,), True, "stepped", "1 plus")),
    ("", ((0,), False, "mapped", "")),
    # A row that may not be entered.
    ("[ 1 2 plus ]", ((0, 0), 3, "stepped", "3")),
    ("[ 1 2 plus ] join", ((0, 0), 3, "stepped", "3")),
    ("[ 1 2 plus ] a-aa do", ((0, 0), 3, "stepped", "3")),
    ("[ 1 2 plus ] wrap", ((0, 0), 3, "stepped", "3")),
    ("{ } [ 1 2 plus ] put", ((1, 0), 3, "stepped", "3")),
    ("[ 1 2 plus ] [ ] do", ((0, 0), 3, "stepped", "3")),
    ("{ [ 1 2 plus ] } each", ((0, 0, 0), 3, "stepped", "3")),
    ("{ [ 1 2 plus ] } do", ((0, 0), 3, "stepped", "3")),
    ("[ [ 1 2 plus ] ] do", ((0, 0, 0), 3, "stepped", "3")),
    ("1 do", ((0, 0), 0, "mapped", "")),
    # many is too great, below 0.
    ("1 2 plus", ((0,), 4, "stepped", "3")),
    ("1 2 plus", ((3,), 1, "mapped", "")),
    ("ab-ba ab-ba", ((0,), 3, "mapped", "")),
    ("ab-ba ab-ba", ((1,), 2, "mapped", "-")),
    ("ab-ba ab-ba", ((0,), 10 ** 40, "mapped", "")),
    ("ab-ba ab-ba", ((2,), -2, "mapped", "")),
    ("ab-ba", ((0,), -1, "mapped", "")),
    ("", ((0,), -1, "mapped", "")),
    # A rule that is none, and one that does not do it.
    ("1 2 plus", ((0,), 3, "", "3")),
    ("1 2 plus", ((0,), 3, "step", "3")),
    ("1 2 plus", ((0,), 3, "Stepped", "3")),
    ("1 2 plus", ((0,), 3, "mapped", "3")),
    ("1 2 plus", ((0,), 3, "stepped", "4")),
    ("1 2 plus", ((0,), 2, "stepped", "3")),
    ("1 2 plus", ((1,), 2, "stepped", "3")),
    ("nought", ((0,), 1, "stepped", "")),
    ("plus", ((0,), 1, "turned", "plus")),
    ("plus", ((0,), 0, "turned", "plus")),
)


def with_row(turn):
    """A turn with the row of its text."""
    place, many, rule, new = turn
    return place, many, rule, read_row(new)


def long_papers():
    """Pairs of a row and a paper that leads from it, and the row that it leads to."""
    back_and_forth = (((0,), 0, "mapped", ("ab-ba", "ab-ba")), ((0,), 2, "mapped", ())) * 300
    yield (), back_and_forth, ()
    yield read_row("plus"), back_and_forth[:-1], read_row("ab-ba ab-ba plus")
    # Ever more words, one behind the other, and rows entered one in the other.
    yield (), tuple([((at,), 0, "mapped", ("-",)) for at in range(500)]), ("-",) * 500
    deep = ()
    for at in range(60):
        deep = (("push", ("row", deep)), "do")
    yield (), tuple([((0,) * at, 0, "stepped", read_row("[ ] do")) for at in range(1, 61)]), deep
    row = read_row("g [ 1 2 plus ab-ba ] dip [ [ ] dip a-aa ] do f [ 3 [ 4 ] dip ] repeat")
    shorter_row, paper = shorter(row, BOOK)
    yield row, paper, shorter_row


class Entering(unittest.TestCase):

    def test_each_row(self):
        for text, numbers in ENTERED:
            row = read_row(text)
            for number in range(len(row)):
                self.assertIs(may_enter(row, number), number in numbers, (text, number))

    def test_numbers_of_no_word(self):
        for text, numbers in ENTERED:
            row = read_row(text)
            for number in (-len(row) - 1, -len(row), -3, -2, -1, len(row), len(row) + 1, 10 ** 40):
                if not 0 <= number < len(row):
                    self.assertIs(may_enter(row, number), False, (text, number))
            for truth in (True, False):
                self.assertIs(may_enter(row, truth), False, (text, truth))

    def test_rows_by_the_counter(self):
        entered = 0
        for row in counted_rows(800):
            for number in range(len(row)):
                self.assertIs(may_enter(row, number), plain_may_enter(row, number), show_row(row))
                entered += may_enter(row, number)
        self.assertGreater(entered, 100)


class Turned(unittest.TestCase):

    def refused(self, row, turn, book=BOOK):
        with self.assertRaises(NoTurn, msg=(show_row(row), turn)) as caught:
            turned(row, turn, book)
        self.assertIs(type(caught.exception), NoTurn)

    def test_ordinary_ones(self):
        for text, turn, told in TURNED:
            made = turned(read_row(text), with_row(turn), BOOK)
            self.assertEqual(show_row(made), told, (text, turn))
            self.assertIs(is_row(made), True)
            self.assertEqual(made, plain_turned(read_row(text), with_row(turn), BOOK))

    def test_refused_ones(self):
        for text, turn in NOT_TURNED:
            self.refused(read_row(text), with_row(turn))

    def test_told_words_need_the_book(self):
        self.refused(("f",), ((0,), 1, "stepped", read_row("1 plus")), None)
        self.refused(("f",), ((0,), 1, "stepped", read_row("1 plus")), ())
        with self.assertRaises(NoTurn):
            turned(("f",), ((0,), 1, "stepped", read_row("1 plus")))
        self.assertEqual(turned(read_row("1 2 plus"), ((0,), 3, "stepped", read_row("3"))), read_row("3"))

    def test_spoilt_turns(self):
        for text, turn, told in TURNED:
            row, (place, many, rule, new) = read_row(text), with_row(turn)
            for spoilt in (
                (place, many, rule), (place, many, rule, new, ()), [place, many, rule, new],
                (list(place), many, rule, new), (place, many, rule, list(new)), (place, many, rule, None),
                (place, many, rule, ("push", ("number", 1))), (place, many, rule, (("number", 1),)),
                (place, many, rule, (("push", ("number", True)),)), (place, many, rule, ("a-b",)),
                (place, many, rule, ("",)), (place, many, rule, show_row(new) or "-"), (place, many, rule, (new,)),
                (place, str(many), rule, new), (place, None, rule, new), (place, (many,), rule, new),
                (place, many, (rule,), new), (place, many, None, new), (place, many, rule.encode(), new),
                (place[0], many, rule, new), (None, many, rule, new), (str(place[0]), many, rule, new),
                (place[:-1] + (str(place[-1]),), many, rule, new), (place[:-1] + (None,), many, rule, new),
                (place[:-1] + ((place[-1],),), many, rule, new), ((), many, rule, new),
                (many, place, rule, new), (place, many, new, rule),
            ):
                self.refused(row, spoilt)

    def test_anything(self):
        for turn in oddities():
            self.refused(read_row("1 2 plus"), turn)
            self.refused((), turn)
        row, new = read_row("8 9 1 2 plus"), read_row("3")
        self.assertEqual(turned(row, ((2,), 3, "stepped", new)), read_row("8 9 3"))
        for odd in oddities():
            for turn in (
                (odd, 3, "stepped", new), ((odd,), 3, "stepped", new), ((2,), odd, "stepped", new),
                ((2,), 3, odd, new), ((2,), 3, "stepped", odd), ((2,), 3, "stepped", (odd,)),
                ((2, odd), 3, "stepped", new), ((odd, 2), 3, "stepped", new),
            ):
                self.refused(row, turn)

    def test_turns_by_the_counter(self):
        news = [read_row(text) for text in ("", "-", "3", "1 plus", "[ ] do", "a-aa", "[ a-aa ] dip", "f", "plus")]
        done = 0
        for count, row in enumerate(counted_rows(250)):
            for place in ((0,), (1,), (2,), (0, 0), (1, 0), (1, 1), (2, 0), (len(row),)):
                for many in range(4):
                    new = news[(count + many) % len(news)]
                    for rule in ("mapped", "stepped", "slid", "turned"):
                        turn = (place, many, rule, new)
                        wanted = plain_turned(row, turn, BOOK)
                        if wanted is None:
                            self.refused(row, turn)
                        else:
                            done += 1
                            self.assertEqual(turned(row, turn, BOOK), wanted, (show_row(row), turn))
        self.assertGreater(done, 200)


class Papers(unittest.TestCase):

    def test_long_ones(self):
        for one, paper, other in long_papers():
            self.assertIs(paper_holds(one, other, paper, BOOK), True)
            self.assertIs(plain_paper(one, other, paper, BOOK), True)

    def test_no_turns(self):
        for text in ("", "1", "[ f ] do", "nought"):
            row = read_row(text)
            self.assertIs(paper_holds(row, row, ()), True)
            self.assertIs(paper_holds(row, row + ("-",), ()), False)
            self.assertIs(paper_holds(row + ("-",), row, ()), False)

    def test_another_row_at_an_end(self):
        for one, paper, other in long_papers():
            for wrong in (other + ("-",), ("plus",) + other, other[1:] if other else ("a-",)):
                self.assertIs(paper_holds(one, wrong, paper, BOOK), False)
            for wrong in (("f",) + one, one[1:] if one else ("f",)):
                self.assertIs(paper_holds(wrong, other, paper, BOOK), plain_paper(wrong, other, paper, BOOK))
            self.assertIs(paper_holds(("f",) + one, other, paper, BOOK), False)

    def test_spoilt_ones(self):
        false = 0
        for one, paper, other in long_papers():
            for at in range(0, len(paper), max(1, len(paper) // 6)):
                place, many, rule, new = paper[at]
                for spoilt in (
                    paper[:at] + paper[at + 1:], paper[:at] + paper[at:at + 1] + paper[at:],
                    paper[:at] + paper[at:at + 2][::-1] + paper[at + 2:],
                    paper[:at] + ((place, many + 1, rule, new),) + paper[at + 1:],
                    paper[:at] + ((place[:-1] + (place[-1] + 1,), many, rule, new),) + paper[at + 1:],
                    paper[:at] + ((place, many, "emptied", new),) + paper[at + 1:],
                    paper[:at] + ((place, many, rule, new + ("a-",)),) + paper[at + 1:],
                ):
                    told = paper_holds(one, other, spoilt, BOOK)
                    self.assertIs(told, plain_paper(one, other, spoilt, BOOK))
                    false += not told
                for odd in (None, (), [], True, (place, many, rule), [place, many, rule, new], Touchy()):
                    self.assertIs(paper_holds(one, other, paper[:at] + (odd,) + paper[at:], BOOK), False)
        self.assertGreater(false, 100)

    def test_anything(self):
        row = read_row("1 [ f ] do")
        for odd in oddities():
            self.assertIs(paper_holds(row, row, odd, BOOK), False)
            self.assertIs(paper_holds(row, row, (odd,), BOOK), False)
        self.assertIs(paper_holds(row, row, [], BOOK), False)
        self.assertIs(paper_holds(row, row, "", BOOK), False)

    def test_with_another_book(self):
        paper = (((0,), 1, "stepped", read_row("1 plus")),)
        self.assertIs(paper_holds(("f",), read_row("1 plus"), paper, BOOK), True)
        self.assertIs(paper_holds(("f",), read_row("1 plus"), paper), False)
        self.assertIs(paper_holds(("f",), read_row("1 plus"), paper, (("f", None, read_row("2 plus")),)), False)

    def test_turned_back(self):
        for one, paper, other in long_papers():
            back = turned_back(one, paper, BOOK)
            self.assertEqual(len(back), len(paper))
            self.assertIs(paper_holds(other, one, back, BOOK), True)
            self.assertEqual(turned_back(other, back, BOOK), paper)
            # Turn by turn it comes by the same rows.
            rows = [one]
            for turn in paper:
                rows.append(turned(rows[-1], turn, BOOK))
            for turn, row in zip(back, rows[-2::-1]):
                other = turned(other, turn, BOOK)
                self.assertEqual(other, row)

    def test_turned_back_of_each_turn(self):
        for text, turn, told in TURNED:
            back = turned_back(read_row(text), (with_row(turn),), BOOK)
            self.assertIs(paper_holds(read_row(told), read_row(text), back, BOOK), True, (text, turn))
        self.assertEqual(turned_back(("plus",), ()), ())

    def test_what_is_handed_in_stays(self):
        row, paper = read_row("g [ 1 2 plus ] do"), shorter(read_row("g [ 1 2 plus ] do"), BOOK)[1]
        before = repr((row, paper, BOOK))
        turned_back(row, paper, BOOK)
        paper_holds(row, row, paper, BOOK)
        self.assertEqual(repr((row, paper, BOOK)), before)
