"""Rows put shorter."""

import unittest

from takeleave.runs import run
from takeleave.shorter import shorter
from takeleave.texts import read_row, show_row
from takeleave.things import words_in
from takeleave.turns import paper_holds, turned
from tests.counted import STRIDE, WORDS, counted_rows, counted_stacks
from tests.oracle import plain_shorter

BOOK = (("f", None, read_row("1 plus")), ("none", None, ()), ("g", None, ("none",)), ("again", None, ("again",)))

# A stretch, the first turn that puts it shorter alone (rule and what is new), and the row at last; None of none.
STRETCHES = (
    ("1 2 plus", "stepped", "3", "3"),
    ("[ plus f ] do", "stepped", "plus f", "plus f"),
    ("7 [ f ] dip", "stepped", "f 7", "f 7"),
    ("1 [ f ] [ 2 ] if", "stepped", "f", "f"),
    ("0 [ f ] [ 2 ] if", "stepped", "2", "2"),
    ("0 [ f ] repeat", "stepped", "", ""),
    ("[ f ] [ ] join", "stepped", "[ f ]", "[ f ]"),
    ("{ 1 } 2 put", "stepped", "{ 1 2 }", "{ 1 2 }"),
    ("{ } [ f ] [ 1 ] part", "stepped", "1", "1"),
    ("{ 7 8 } [ f ] [ 1 ] part", "stepped", "7 { 8 } f", "7 { 8 } f"),
    ("{ } [ f ] each", "stepped", "", ""),
    ("-", "stepped", "", ""),
    ("1 a-", "stepped", "", ""),
    ("1 2 ab-ba", "stepped", "2 1", "2 1"),
    ("[ f f ] [ f ] ab-b", "stepped", "[ f ]", "[ f ]"),
    ("none", "stepped", "", ""),
    ("ab-ba abc-bca", "mapped", "abc-cba", "abc-cba"),
    ("ab-ba ab-ba", "mapped", "-", ""),
    ("a- a-", "mapped", "ab-", "ab-"),
    ("a-aa ab-ba", "mapped", "a-aa", "a-aa"),
    ("a-a", "mapped", "", ""),
    ("abc-abc", "mapped", "", ""),
    ("ab-ba plus", "turned", "plus", "plus"),
    ("ab-ba times", "turned", "times", "times"),
    ("ab-ba same", "turned", "same", "same"),
    ("[ f ] dip [ f 1 ] dip", "dips", "[ f f 1 ] dip", "[ f f 1 ] dip"),
    ("[ 1 ] dip", "beneath", "1 ab-ba", "1 ab-ba"),
    ("[ { 1 } ] dip", "beneath", "{ 1 } ab-ba", "{ 1 } ab-ba"),
    ("[ a-aa ] dip", "slid", "ab-aab", "ab-aab"),
    ("[ ab-ba ] dip", "slid", "abc-bac", "abc-bac"),
    ("[ abcd-abdc ] dip", "slid", "abc-bac", "abc-bac"),
    ("[ - ] dip", "slid", "-", ""),
    ("[ ] dip", "emptied", "a-a", ""),
)
# Rows that stay as they are.
STAYING = (
    "", "1", "1 2", "plus", "f", "nought", "again", "g", "1 plus", "[ ] plus", "1 wrap", "1 a-aa", "[ f ] a-aa", "1 f",
    "1 [ f ] repeat", "0 { } repeat", "{ 1 } [ f ] each", "[ 1 ] [ f ] while", "[ ] [ ] while", "ab-ba minus",
    "ab-ba less", "ab-ba", "a-aa", "[ f ] dip", "[ 1 f ] dip", "[ 1 2 ] dip", "[ 1 2 plus ]", "[ 1 2 plus ] wrap",
    "{ [ 1 2 plus ] }", "[ 1 2 plus ] a-aa join", "[ 1 2 plus ] a-aa", "[ - ] [ - ] put", "a-aaaaaaaaaaaa a-aa",
    "abcdefgh- a-", "[ abcdefgh-hgfedcba ] dip", "[ a-aaaaaaaaaaaa ] dip", "1 do", "[ ] 1 plus",
)
# A row, and the places, rules and words of all turns in their order.
PAPERS = (
    ("- 1 2 plus", "3", "0 1 stepped ; 0 3 stepped 3"),
    ("a-a a-a", "", "0 2 mapped - ; 0 1 stepped"),
    ("1 ab-ba plus", "1 plus", "1 2 turned plus"),
    ("1 2 ab-ba plus", "3", "0 3 stepped 2 1 ; 0 3 stepped 3"),
    ("ab-ba a-a plus", "plus", "0 2 mapped ab-ba ; 0 2 turned plus"),
    ("ab-ba plus 1 2 plus", "plus 3", "0 2 turned plus ; 1 3 stepped 3"),
    ("[ 1 2 plus f ] do 3 4 plus", "3 f 7", "0 2 stepped 1 2 plus f ; 0 3 stepped 3 ; 2 3 stepped 7"),
    ("f [ 1 2 plus f ] repeat", "f [ 3 f ] repeat", "1,0 3 stepped 3"),
    ("[ 1 2 plus f ] repeat 3 4 plus", "[ 3 f ] repeat 7", "0,0 3 stepped 3 ; 2 3 stepped 7"),
    ("[ a- [ - ] dip f ] [ 1 2 plus ] if 3 4 plus", "[ a- f ] [ 3 ] if 7",
     "0,1 2 slid - ; 0,0 2 mapped a- ; 1,0 3 stepped 3 ; 3 3 stepped 7"),
    ("[ ab-ba plus ] [ a-a ] while", "[ plus ] [ ] while", "0,0 2 turned plus ; 1,0 1 mapped"),
    ("[ f ] [ [ ] dip ] part", "[ f ] [ ] part", "1,0 2 emptied a-a ; 1,0 1 mapped"),
    ("[ [ [ a- a- ] each ] repeat ] each", "[ [ [ ab- ] each ] repeat ] each", "0,0,0,0 2 mapped ab-"),
    ("[ a-aa ] dip [ 1 ] dip", "[ a-aa 1 ] dip", "0 4 dips [ a-aa 1 ] dip"),
    ("[ ] dip [ ] dip", "", "0 4 dips [ ] dip ; 0 2 emptied a-a ; 0 1 mapped"),
    ("[ - ] dip [ f ] dip", "[ f ] dip", "0 4 dips [ - f ] dip ; 0,0 1 stepped"),
    ("5 [ - ] dip", "5", "0 3 stepped - 5 ; 0 1 stepped"),
    ("[ a-a ] dip", "", "0 2 slid - ; 0 1 stepped"),
    ("none f none", "f", "0 1 stepped ; 1 1 stepped"),
    ("1 none", "1", "1 1 stepped"),
    ("[ none ] [ f none ] if", "[ ] [ f ] if", "0,0 1 stepped ; 1,1 1 stepped"),
    ("[ none ] [ f none ] join", "[ none f none ]", "0 3 stepped [ none f none ]"),
    ("a- ab-ba a-a", "abc-ba", "0 2 mapped abc-ba ; 0 2 mapped abc-ba"),
    ("abcdefgh- a-a a-", "abcdefgh- a-", "0 2 mapped abcdefgh-"),
    ("1 2 3 a- plus", "3", "2 2 stepped ; 0 3 stepped 3"),
)


def turns_of(text):
    """The paper that is written by places, numbers of words, rules and new words."""
    paper = []
    for part in text.split(" ; "):
        place, many, rule, *new = part.split(" ")
        numbers = tuple([int(number) for number in place.split(",")])
        paper.append((numbers, int(many), rule, read_row(" ".join(new))))
    return tuple(paper)


class Shorter(unittest.TestCase):

    def told(self, row, book=BOOK):
        """The shorter row and the paper, with all that holds of each."""
        short, paper = shorter(row, book)
        self.assertIs(paper_holds(row, short, paper, book), True, show_row(row))
        self.assertEqual(shorter(short, book), (short, ()), show_row(row))
        many = words_in(row)
        for turn in paper:
            row = turned(row, turn, book)
            self.assertLess(words_in(row), many)
            many = words_in(row)
        return short, paper

    def test_each_stretch_alone(self):
        for text, rule, new, last in STRETCHES:
            row = read_row(text)
            short, paper = self.told(row)
            self.assertEqual(paper[0], ((0,), len(row), rule, read_row(new)), text)
            self.assertEqual(show_row(short), last, text)

    def test_each_stretch_within_a_row(self):
        for text, rule, new, last in STRETCHES:
            row = ("f",) + read_row(text) + ("f",)
            short, paper = self.told(row)
            self.assertEqual(paper[0], ((1,), len(row) - 2, rule, read_row(new)), text)
            self.assertEqual(short, ("f",) + read_row(last) + ("f",), text)

    def test_each_stretch_in_rows_that_may_be_entered(self):
        for text, rule, new, last in STRETCHES:
            for around, place in (("less [ 1 wrap {} ] repeat", (1, 2)), ("[ {} ] [ f ] if", (0, 0)),
                                  ("[ f ] [ {} ] while", (1, 0)), ("[ f ] [ less {} ] part", (1, 1)),
                                  ("[ {} ] each", (0, 0)), ("[ f {} minus ] dip", (0, 1)),
                                  ("1 wrap [ [ {} ] [ f ] if ] each", (2, 0, 0))):
                row = read_row(" ".join(around.replace("{}", text).split()))
                short, paper = self.told(row)
                self.assertEqual(paper[0], (place, len(read_row(text)), rule, read_row(new)), (around, text))

    def test_in_rows_that_may_not_be_entered(self):
        for text, rule, new, last in STRETCHES:
            for around in ("[ {} ]", "[ {} ] wrap", "[ {} ] join", "a-aa [ {} ] put", "[ {} ] a-aa", "[ {} ] [ f ] do",
                           "{ [ {} ] } [ f ] each", "[ f ] [ {} ]", "[ {} ] if", "[ [ {} ] ] repeat", "[ {} ] f"):
                row = read_row(" ".join(around.replace("[ {} ]", "[ " + text + " ]").split()))
                if around != "[ {} ] [ f ] do":
                    self.assertEqual(self.told(row), (row, ()), (around, text))
        self.assertEqual(show_row(self.told(read_row("[ 1 2 plus ] [ f ] do"))[0]), "[ 1 2 plus ] f")

    def test_what_stays(self):
        for text in STAYING:
            self.assertEqual(self.told(read_row(text)), (read_row(text), ()), text)

    def test_the_order_of_turns(self):
        for text, last, turns in PAPERS:
            self.assertEqual(self.told(read_row(text)), (read_row(last), turns_of(turns)), text)

    def test_a_shuffle_with_too_many_letters(self):
        for text in ("abcdefgh- a-", "a-aaaaaaa a-aaaaaaa", "[ abcdefgh-hgfedcba ] dip", "[ a-aaaaaaaaaaaa ] dip"):
            self.assertEqual(self.told(read_row(text)), (read_row(text), ()), text)
        self.assertEqual(show_row(self.told(read_row("a-aaaaaaa a-aaaaaa"))[0]), "a-aaaaaaaaaaaa")
        self.assertEqual(show_row(self.told(read_row("abcdefg- a-"))[0]), "abcdefgh-")
        self.assertEqual(show_row(self.told(read_row("[ a-aaaaaaaaaaa ] dip"))[0]), "ab-aaaaaaaaaaab")
        self.assertEqual(show_row(self.told(read_row("[ abcdefg-gfedcba ] dip"))[0]), "abcdefgh-gfedcbah")

    def test_told_words(self):
        for text, last in (("f", "f"), ("none", ""), ("g", "g"), ("again", "again"), ("nought", "nought"),
                           ("1 none 2 plus", "3"), ("[ none ] dip", ""), ("[ none ] wrap", "[ none ] wrap")):
            self.assertEqual(show_row(self.told(read_row(text))[0]), last, text)
        for book in (None, ()):
            self.assertEqual(self.told(("none",), book), (("none",), ()))
        self.assertEqual(shorter(("none", "-")), (("none",), (((1,), 1, "stepped", ()),)))

    def test_against_the_plain_way(self):
        for row in counted_rows(1500) + counted_rows(1200, WORDS[:18], STRIDE * 1009):
            self.assertEqual(shorter(row, BOOK), plain_shorter(row, BOOK), show_row(row))

    def test_rows_by_the_counter(self):
        turns = 0
        for row in counted_rows(500, WORDS, STRIDE * 1009):
            turns += len(self.told(row)[1])
        self.assertGreater(turns, 150)

    def test_rows_of_sixty_words(self):
        for text in ("1 2 plus " * 20, "- " * 60, "ab-ba " * 60, "[ [ [ 1 2 plus ] dip ] do ] each " * 6,
                     "a-aa [ - ] dip ab-ba plus " * 10, "none f " * 30, "[ ] dip " * 30, "[ a-aa ] dip " * 20,
                     "[ [ [ [ [ [ a-a - ] do ] dip ] each ] repeat ] dip ] do " * 3, "{ 1 2 } [ a- ] [ ] part " * 10):
            row = read_row(text.strip())
            self.assertEqual(self.told(row), plain_shorter(row, BOOK), text)

    def test_alike_to_the_row(self):
        compared = 0
        for row in counted_rows(250, WORDS, STRIDE * 1009):
            short = shorter(row, BOOK)[0]
            for stack in counted_stacks(25):
                ends = [run(each, stack, 200, BOOK) for each in (row, short)]
                if {end[0] for end in ends} == {"ended"}:
                    compared += 1
                    self.assertEqual(ends[0][2], ends[1][2], (show_row(row), stack))
        self.assertGreater(compared, 100)

    def test_what_is_handed_in_stays(self):
        row = read_row("none [ 1 2 plus ] do")
        before = repr((row, BOOK))
        shorter(row, BOOK)
        self.assertEqual(repr((row, BOOK)), before)
