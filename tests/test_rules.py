"""The seven turning rules, read left to right and right to left."""

import unittest

from takeleave.rules import turns_to
from takeleave.runs import run
from takeleave.texts import read_row, show_row
from tests.counted import counted_rows, counted_stacks
from tests.oracle import plain_turns
from tests.samples import Touchy

RULES = ("mapped", "stepped", "turned", "dips", "beneath", "slid", "emptied")
BOOK = (("f", None, read_row("1 plus")), ("none", None, ()), ("again", None, ("again",)),
        ("deep", None, read_row("f [ f ] do")))

# A rule and two stretches that turn to one another by it; with BOOK.
TURNING = (
    ("mapped", "ab-ba ab-ba", ""),
    ("mapped", "", ""),
    ("mapped", "-", ""),
    ("mapped", "a-a", "-"),
    ("mapped", "abc-abc", "a-a"),
    ("mapped", "abc-bca abc-bca", "abc-cab"),
    ("mapped", "a-aa ab-ba", "a-aa"),
    ("mapped", "ab-aba abc-bca a-", "ab-ba"),
    ("mapped", "a- a-", "ab-"),
    ("mapped", "abcdefgh-hgfedcba abcdefgh-hgfedcba", "abcdefgh-abcdefgh"),
    ("mapped", "a-aaaaaaaaaaaa a-aa", "a-aa a-aaaaaaaaaaaa"),
    ("mapped", "ab-ba", "abc-acb"),
    ("stepped", "1 2 plus", "3"),
    ("stepped", "1 2 minus", "999999999999"),
    ("stepped", "3 2 times", "6"),
    ("stepped", "3 2 less", "0"),
    ("stepped", "2 2 same", "1"),
    ("stepped", "[ plus 1 ] do", "plus 1"),
    ("stepped", "[ ] do", ""),
    ("stepped", "1 [ plus ] dip", "plus 1"),
    ("stepped", "2 [ plus ] [ minus ] if", "plus"),
    ("stepped", "0 [ plus ] [ minus ] if", "minus"),
    ("stepped", "[ a-aa ] [ 1 minus ] while", "a-aa [ 1 minus [ a-aa ] [ 1 minus ] while ] [ ] if"),
    ("stepped", "0 [ plus ] repeat", ""),
    ("stepped", "3 [ plus ] repeat", "plus 2 [ plus ] repeat"),
    ("stepped", "[ plus ] [ minus ] join", "[ plus minus ]"),
    ("stepped", "7 wrap", "[ 7 ]"),
    ("stepped", "{ 1 } 2 put", "{ 1 2 }"),
    ("stepped", "{ } [ plus ] [ minus ] part", "minus"),
    ("stepped", "{ 1 2 } [ plus ] [ minus ] part", "1 { 2 } plus"),
    ("stepped", "{ } [ plus ] each", ""),
    ("stepped", "{ 1 2 } [ plus ] each", "1 plus { 2 } [ plus ] each"),
    ("stepped", "-", ""),
    ("stepped", "1 a-", ""),
    ("stepped", "1 2 ab-ba", "2 1"),
    ("stepped", "1 [ 2 ] { 3 } abc-bca", "[ 2 ] { 3 } 1"),
    ("stepped", "f", "1 plus"),
    ("stepped", "none", ""),
    ("stepped", "again", "again"),
    ("stepped", "deep", "f [ f ] do"),
    ("stepped", "5 [ 6 ] 1 2 plus", "5 [ 6 ] 3"),
    ("stepped", "5 { 6 } [ plus ] do", "5 { 6 } plus"),
    ("stepped", "5 6 -", "5 6"),
    ("stepped", "5 6 7 ab-ba", "5 7 6"),
    ("stepped", "5 6 f", "5 6 1 plus"),
    ("stepped", "9 none", "9"),
    ("stepped", "8 9 7 wrap", "8 9 [ 7 ]"),
    ("stepped", "8 0 [ plus ] repeat", "8"),
    ("stepped", "8 { 1 } [ a- ] each", "8 1 a- { } [ a- ] each"),
    ("turned", "ab-ba plus", "plus"),
    ("turned", "ab-ba times", "times"),
    ("turned", "ab-ba same", "same"),
    ("dips", "[ plus ] dip [ 1 a- ] dip", "[ plus 1 a- ] dip"),
    ("dips", "[ ] dip [ ] dip", "[ ] dip"),
    ("dips", "[ ] dip [ plus ] dip", "[ plus ] dip"),
    ("dips", "[ plus ] dip [ ] dip", "[ plus ] dip"),
    ("dips", "[ [ 1 ] dip ] dip [ f ] dip", "[ [ 1 ] dip f ] dip"),
    ("beneath", "[ 1 ] dip", "1 ab-ba"),
    ("beneath", "[ [ plus f ] ] dip", "[ plus f ] ab-ba"),
    ("beneath", "[ { 1 2 } ] dip", "{ 1 2 } ab-ba"),
    ("slid", "[ a-aa ] dip", "ab-aab"),
    ("slid", "[ ab-ba ] dip", "abc-bac"),
    ("slid", "[ a- ] dip", "ab-b"),
    ("slid", "[ - ] dip", "-"),
    ("slid", "[ - ] dip", "a-a"),
    ("slid", "[ a-a ] dip", "abc-abc"),
    ("slid", "[ ab-ba ] dip", "abcd-acbd"),
    ("slid", "[ abc-acb ] dip", "abc-bac"),
    ("slid", "[ a-aa ] dip", "abcd-abccd"),
    ("slid", "[ abcdefg-gfedcba ] dip", "abcdefgh-gfedcbah"),
    ("slid", "[ abcdefgh-abcdefhg ] dip", "abc-bac"),
    ("emptied", "[ ] dip", "a-a"),
)

# What does not turn by the rule, though it is near to what does.
NOT_TURNING = (
    ("mapped", "ab-ba", ""),
    ("mapped", "plus", "plus"),
    ("mapped", "1 a-", ""),
    ("mapped", "a-aa", "ab-aba"),
    ("mapped", "[ ] dip", "a-a"),
    ("mapped", "none", ""),
    ("stepped", "", ""),
    ("stepped", "1", "1"),
    ("stepped", "1 2", "1 2"),
    ("stepped", "2 plus", "2 plus"),
    ("stepped", "plus", "plus"),
    ("stepped", "[ ] 1 plus", "[ ] 1 plus"),
    ("stepped", "[ ] 1 plus", "1"),
    ("stepped", "1 do", ""),
    ("stepped", "nought", ""),
    ("stepped", "nought", "nought"),
    ("stepped", "f plus", "1 plus plus"),
    ("stepped", "a- 1 2 plus", "a- 3"),
    ("stepped", "1 2 plus a-", "3 a-"),
    ("stepped", "1 ab-ba", "1 ab-ba"),
    ("stepped", "999999999999 1 plus", "1000000000"),
    ("turned", "ab-ba minus", "minus"),
    ("turned", "ab-ba less", "less"),
    ("turned", "ab-ba join", "join"),
    ("turned", "abc-acb plus", "plus"),
    ("turned", "ab-ba ab-ba plus", "plus"),
    ("turned", "plus", "plus"),
    ("turned", "ab-ba plus", "ab-ba plus"),
    ("dips", "[ plus ] dip", "[ plus ] dip"),
    ("dips", "[ plus ] dip [ minus ] do", "[ plus minus ] dip"),
    ("dips", "[ plus ] dip [ minus ] dip", "[ minus plus ] dip"),
    ("dips", "[ plus ] dip [ 1 ] dip [ minus ] dip", "[ plus 1 minus ] dip"),
    ("dips", "{ } dip [ minus ] dip", "[ minus ] dip"),
    ("dips", "1 dip [ minus ] dip", "[ minus ] dip"),
    ("beneath", "[ 1 2 ] dip", "1 2 ab-ba"),
    ("beneath", "[ plus ] dip", "plus ab-ba"),
    ("beneath", "[ ] dip", "ab-ba"),
    ("beneath", "{ 1 } dip", "1 ab-ba"),
    ("beneath", "[ 1 ] dip", "1 abc-acb"),
    ("beneath", "[ 1 ] do", "1 ab-ba"),
    ("slid", "[ a-aa ] dip", "a-aa"),
    ("slid", "[ a-aa ] dip", "ab-aba"),
    ("slid", "[ a-aa a- ] dip", "-"),
    ("slid", "[ ] dip", "-"),
    ("slid", "[ plus ] dip", "-"),
    ("slid", "[ - ] dip", ""),
    ("slid", "[ ab-ba ] dip", "abc-bac -"),
    ("slid", "[ a-a ] do", "a-a"),
    ("slid", "a-aa", "ab-aab"),
    ("emptied", "[ ] dip", "-"),
    ("emptied", "[ ] dip", "ab-ab"),
    ("emptied", "[ ] dip", ""),
    ("emptied", "{ } dip", "a-a"),
    ("emptied", "[ - ] dip", "a-a"),
    ("emptied", "[ ] do", "a-a"),
    ("emptied", "a-a", "a-a"),
)


def one_more(word):
    """A word with each pushed number one more, or one fewer where it is the greatest."""
    return word if isinstance(word, str) else ("push", thing_one_more(word[1]))


def thing_one_more(thing):
    if thing[0] == "number":
        return ("number", thing[1] + 1 if thing[1] < 10 ** 12 - 1 else thing[1] - 1)
    if thing[0] == "row":
        return ("row", tuple([one_more(word) for word in thing[1]]))
    return ("list", tuple([thing_one_more(each) for each in thing[1]]))


def spoilt(row):
    """A row with one thing put otherwise, in each way."""
    for at, word in enumerate(row):
        yield row[:at] + row[at + 1:]
        yield row[:at] + (word,) + row[at:]
        for other in ("plus", "a-", "dip", "ab-ba", ("push", ("number", 7)), ("push", ("row", ())), one_more(word)):
            yield row[:at] + (other,) + row[at + 1:]
        yield row[:at] + row[at:at + 2][::-1] + row[at + 2:]
        if not isinstance(word, str) and word[1][0] == "row":
            for inner in spoilt(word[1][1]):
                yield row[:at] + (("push", ("row", inner)),) + row[at + 1:]


class Rules(unittest.TestCase):

    def told(self, rule, old, new, book=BOOK):
        """What is told either way about, and that it is the same."""
        forth, back = turns_to(rule, old, new, book), turns_to(rule, new, old, book)
        self.assertIs(type(forth), bool)
        self.assertIs(forth, back, (rule, show_row(old), show_row(new)))
        return forth

    def test_what_turns(self):
        for rule, old, new in TURNING:
            self.assertIs(self.told(rule, read_row(old), read_row(new)), True, (rule, old, new))

    def test_all_rules_and_basic_words_are_tried(self):
        self.assertEqual({rule for rule, old, new in TURNING}, set(RULES))
        tried = {old.split(" ")[-1] for rule, old, new in TURNING if rule == "stepped"}
        for word in "plus minus times less same do dip if while repeat join wrap put part each".split():
            self.assertIn(word, tried)

    def test_what_does_not_turn(self):
        for rule, old, new in NOT_TURNING:
            self.assertIs(self.told(rule, read_row(old), read_row(new)), False, (rule, old, new))

    def test_one_thing_put_otherwise(self):
        false = 0
        for rule, old, new in TURNING:
            left, right = read_row(old), read_row(new)
            pairs = [(each, right) for each in spoilt(left)] + [(left, each) for each in spoilt(right)]
            for one, other in pairs:
                told = self.told(rule, one, other)
                self.assertIs(told, plain_turns(rule, one, other, BOOK), (rule, show_row(one), show_row(other)))
                false += not told
        self.assertGreater(false, 2000)

    def test_by_another_rule(self):
        for rule, old, new in TURNING + NOT_TURNING:
            for other in RULES:
                left, right = read_row(old), read_row(new)
                self.assertIs(self.told(other, left, right), plain_turns(other, left, right, BOOK), (other, old, new))

    def test_none_of_the_seven(self):
        for rule in ("", "Mapped", "mapped ", "step", "turn", "dip", "dipped", "slide", "empty", "alike", "-", "plus"):
            for sort, old, new in TURNING:
                self.assertIs(self.told(rule, read_row(old), read_row(new)), False, (rule, old, new))
        for rule in (None, True, 0, (), ("mapped",), ["mapped"], b"mapped", Touchy()):
            self.assertIs(turns_to(rule, ("-",), (), BOOK), False)

    def test_stretches_without_words(self):
        for rule in RULES:
            self.assertIs(turns_to(rule, (), (), BOOK), rule == "mapped", rule)

    def test_without_a_book(self):
        lost = 0
        for rule, old, new in TURNING:
            left, right = read_row(old), read_row(new)
            for book in (None, ()):
                told = self.told(rule, left, right, book)
                self.assertIs(told, plain_turns(rule, left, right), (rule, old, new))
                lost += not told
        self.assertEqual(lost, 2 * 6)
        self.assertIs(turns_to("mapped", ("ab-ba", "ab-ba"), ()), True)
        self.assertIs(turns_to("stepped", ("f",), read_row("1 plus")), False)
        self.assertIs(turns_to("stepped", ("f",), read_row("1 plus"), BOOK), True)
        self.assertIs(turns_to("stepped", ("f",), read_row("2 plus"), (("f", None, read_row("2 plus")),)), True)
        self.assertIs(turns_to("dips", read_row("[ f ] dip [ g ] dip"), read_row("[ f g ] dip")), True)

    def test_rows_by_the_counter(self):
        rows = counted_rows(60) + [read_row(text) for text in ("[ a-aa ] dip", "1 ab-ba", "ab-aab", "a-a", "[ ] dip")]
        for rule in RULES:
            for one in rows:
                for other in rows[::3]:
                    self.assertIs(turns_to(rule, one, other, BOOK), plain_turns(rule, one, other, BOOK))

    def test_both_do_the_same(self):
        compared = 0
        for rule, old, new in TURNING:
            for stack in counted_stacks(150):
                ends = [run(read_row(text), stack, 300, BOOK) for text in (old, new)]
                if "fault" not in [end[0] for end in ends]:
                    compared += 1
                    self.assertEqual(ends[0][0], ends[1][0], (rule, old, new, stack))
                    if ends[0][0] == "ended":
                        self.assertEqual(ends[0][2], ends[1][2], (rule, old, new, stack))
        self.assertGreater(compared, 2500)

    def test_deep_rows(self):
        deep = ()
        for at in range(100):
            deep = (("push", ("row", deep)), "do")
        pushed = ("push", ("row", deep))
        self.assertIs(turns_to("dips", (pushed, "dip", pushed, "dip"), (("push", ("row", deep + deep)), "dip")), True)
        self.assertIs(turns_to("stepped", (pushed, "do"), deep), True)
        self.assertIs(turns_to("beneath", (("push", ("row", (pushed,))), "dip"), (pushed, "ab-ba")), True)
        self.assertIs(turns_to("beneath", (("push", ("row", (pushed,))), "dip"), (pushed, "dip")), False)

    def test_a_text_that_is_no_word(self):
        for text in ("a-b", "", "Plus", "b-", "abcdefghi"):
            for rule in RULES:
                self.assertIs(turns_to(rule, (text,), (text,), BOOK), False, (rule, text))
                self.assertIs(turns_to(rule, (text,), (), BOOK), False, (rule, text))
