"""Derivations, when they are let by, their kinds, and how they are filled."""

import unittest

from takeleave.basics import basic_kind
from takeleave.derivations import book_derives, derives, filled_by, kind_by
from takeleave.kindtexts import read_kind
from takeleave.texts import read_row
from takeleave.words import SORTS_TAKEN
from tests.samples import filled_row, filling, fillings_in, nested, oddities, stack

TOLD = read_kind("A a -- A a a")
BOOK = (("f", None, ("a-aa",)), ("g", read_kind("A a b -- A"), ("ab-",)))
KINDS = (TOLD, read_kind("A a b -- A"))


def stacks(*texts):
    return tuple([stack(text) for text in texts])


def of(*texts, inner=None):
    """A derivation with these kinds of stacks, and with what stands within: nothing where it isn't told."""
    return stacks(*texts), tuple(inner) if inner is not None else (None,) * (len(texts) - 1)


class Derives(unittest.TestCase):

    def tells(self, truth, row, derivation, book=None, kinds=None):
        row = read_row(row) if isinstance(row, str) else row
        self.assertIs(derives(row, derivation, book, kinds), truth, (row, derivation))

    def test_a_row_without_words(self):
        self.tells(True, "", of("A"))
        self.tells(True, "", of(""))
        self.tells(True, "", of("B number [ A -- a ]"))
        self.tells(False, "", of("A", "A"))
        self.tells(False, "", ((), ()))

    def test_pushed_numbers(self):
        self.tells(True, "7", of("A", "A number"))
        self.tells(True, "7", of("", "number"))
        self.tells(True, "7 8", of("a", "a number", "a number number"))
        self.tells(False, "7", of("A", "A a"))
        self.tells(False, "7", of("A", "A { number }"))
        self.tells(False, "7", of("A", "B number"))
        self.tells(False, "7", of("A", "number"))
        self.tells(False, "7", of("", "A number"))
        self.tells(False, "7", of("A", "A"))
        self.tells(False, "7", of("A number", "A"))
        self.tells(False, "7", of("A", "A number number"))
        self.tells(False, "7", of("A a", "A b number"))
        self.tells(False, "7", of("A", "A number", inner=[()]))
        self.tells(False, "7", of("A", "A number", inner=[of("A")]))

    def test_pushed_rows(self):
        inner = of("B number number", "B number")
        self.tells(True, "[ plus ]", of("A", "A [ B number number -- B number ]", inner=[inner]))
        self.tells(True, "[ plus ]", of("A", "A [ number number -- number ]", inner=[of("number number", "number")]))
        self.tells(True, "[ ]", of("A", "A [ A -- A ]", inner=[of("A")]))
        self.tells(True, "[ ] [ ]", of("A", "A [ A -- A ]", "A [ A -- A ] [ B number -- B number ]",
                                       inner=[of("A"), of("B number")]))
        self.tells(True, "[ [ 1 ] ]", of("A", "A [ B -- B [ C -- C number ] ]",
                                         inner=[of("B", "B [ C -- C number ]", inner=[of("C", "C number")])]))

    def test_pushed_rows_that_are_not_let_by(self):
        kind = "A [ B number number -- B number ]"
        inner = of("B number number", "B number")
        self.tells(False, "[ plus ]", of("A", kind))
        self.tells(False, "[ plus ]", of("A", kind, inner=[()]))
        self.tells(False, "[ plus ]", of("A", kind, inner=[(inner,)]))
        self.tells(False, "[ plus ]", of("A", kind, inner=[list(inner)]))
        self.tells(False, "[ plus ]", of("A", kind, inner=[of("C number number", "C number")]))
        self.tells(False, "[ plus ]", of("A", "A [ C number number -- B number ]", inner=[inner]))
        self.tells(False, "[ plus ]", of("A", "A [ B number number -- C number ]", inner=[inner]))
        self.tells(False, "[ plus ]", of("A", "A [ B number number -- B ]", inner=[inner]))
        self.tells(False, "[ plus ]", of("A", "A [ B number -- B number ]", inner=[inner]))
        self.tells(False, "[ plus ]", of("A", "A a", inner=[inner]))
        self.tells(False, "[ plus ]", of("A", "A { [ B number number -- B number ] }", inner=[inner]))
        self.tells(False, "[ plus ]", of("A", "A number", inner=[inner]))
        self.tells(False, "[ plus ]", of("A", "B [ B number number -- B number ]", inner=[inner]))
        self.tells(False, "[ do ]", of("A", kind, inner=[inner]))
        self.tells(False, "[ plus plus ]", of("A", kind, inner=[inner]))
        self.tells(False, "[ ]", of("A", "A [ A -- A number ]", inner=[of("A")]))
        self.tells(False, "[ [ 1 ] ]", of("A", "A [ B -- B [ C -- C number ] ]",
                                          inner=[of("B", "B [ C -- C number ]", inner=[of("B", "B number")])]))

    def test_pushed_lists(self):
        self.tells(True, "{ }", of("A", "A { a }", inner=[()]))
        self.tells(True, "{ }", of("A", "A { [ -- B ] }", inner=[()]))
        self.tells(True, "{ 1 2 }", of("A", "A { number }", inner=[(None, None)]))
        self.tells(True, "{ { } { 1 } }", of("A", "A { { number } }", inner=[((), (None,))]))
        self.tells(True, "{ [ ] }", of("A", "A { [ B -- B ] }", inner=[(of("B"),)]))
        kind = "A { [ number number -- number ] }"
        both = (of("number number", "number"), of("number number", "number", "number number", "number"))
        self.tells(True, "{ [ plus ] [ plus 1 times ] }", of("A", kind, inner=[both]))
        self.tells(True, "{ { [ plus ] } { [ plus 1 times ] } }",
                   of("A", "A { { [ number number -- number ] } }", inner=[((both[0],), (both[1],))]))
        self.tells(True, "[ { 1 } ]", of("A", "A [ A -- A { number } ]",
                                         inner=[of("A", "A { number }", inner=[(None,)])]))

    def test_pushed_lists_that_are_not_let_by(self):
        self.tells(False, "{ }", of("A", "A { a }"))
        self.tells(False, "{ }", of("A", "A a", inner=[()]))
        self.tells(False, "{ }", of("A", "A number", inner=[()]))
        self.tells(False, "{ }", of("A", "A { a }", inner=[(None,)]))
        self.tells(False, "{ 1 2 }", of("A", "A { number }", inner=[(None,)]))
        self.tells(False, "{ 1 2 }", of("A", "A { number }", inner=[(None, None, None)]))
        self.tells(False, "{ 1 2 }", of("A", "A { number }", inner=[[None, None]]))
        self.tells(False, "{ 1 2 }", of("A", "A { number }", inner=[(None, ())]))
        self.tells(False, "{ 1 2 }", of("A", "A { a }", inner=[(None, None)]))
        self.tells(False, "{ 1 2 }", of("B", "A { number }", inner=[(None, None)]))
        self.tells(False, "{ 1 { } }", of("A", "A { number }", inner=[(None, ())]))
        self.tells(False, "{ 1 { } }", of("A", "A { { a } }", inner=[(None, ())]))
        self.tells(False, "{ { 1 } }", of("A", "A { { number } }", inner=[None]))
        self.tells(False, "{ { 1 } }", of("A", "A { { number } }", inner=[(None,)]))
        self.tells(False, "{ { 1 } { [ ] } }", of("A", "A { { number } }", inner=[((None,), (of("A"),))]))
        kind = "A { [ number number -- number ] }"
        one, other = of("number number", "number"), of("B number number", "B number")
        self.tells(True, "{ [ plus ] [ plus ] }", of("A", kind, inner=[(one, one)]))
        self.tells(False, "{ [ plus ] [ plus ] }", of("A", kind, inner=[(one, other)]))
        self.tells(False, "{ [ plus ] [ plus ] }", of("A", kind, inner=[(other, one)]))
        self.tells(False, "{ [ plus ] [ do ] }", of("A", kind, inner=[(one, one)]))
        self.tells(False, "{ [ plus ] 1 }", of("A", kind, inner=[(one, None)]))

    def test_each_basic_word(self):
        for word in sorted(SORTS_TAKEN) + ["-", "a-aa", "ab-ba", "abcdefgh-hhhhaaaadddd"]:
            kind = basic_kind(word)
            self.tells(True, (word,), (kind, (None,)))
            for by in fillings_in(81, 30):
                self.tells(True, (word,), (filled_row(kind, by), (None,)))
            take, leave = kind
            self.tells(False, (word,), ((take, (leave[0], leave[1] + (("number",),))), (None,)))
            self.tells(False, (word,), ((take, ("Q", leave[1])), (None,)))
            self.tells(False, (word,), ((("", take[1]), leave), (None,)))
            self.tells(False, (word,), (kind, ((),)))
            self.tells(False, (word,), (kind, (of("A"),)))

    def test_an_open_name_for_two_unlike_kinds(self):
        self.tells(True, "a-aa", of("A number", "A number number"))
        self.tells(False, "a-aa", of("A number", "A number { number }"))
        self.tells(False, "a-aa", of("A a", "A a b"))
        self.tells(False, "a-aa", of("A number", "B number number"))
        self.tells(False, "put", of("A { number } { a }", "A { number }"))
        self.tells(False, "do", of("A [ B -- C ]", "C"))
        self.tells(True, "do", of("B [ B -- C ]", "C"))
        self.tells(True, "do", of("B number [ B number -- ]", ""))
        self.tells(False, "do", of("B number [ B -- C ]", "C number"))
        self.tells(False, "if", of("A number [ A -- B ] [ A -- C ]", "B"))
        self.tells(False, "while", of("A [ A -- A number ] [ A -- B ]", "A"))

    def test_several_words(self):
        row = "3 [ 1 plus ] [ ab-ba ] dip do"
        inner = [None, of("A number", "A number number", "A number"), of("A a number", "A number a"), None, None]
        good = of("A a", "A a number", "A a number [ A number -- A number ]",
                  "A a number [ A number -- A number ] [ A a number -- A number a ]",
                  "A number a [ A number -- A number ]", "A number", inner=inner)
        self.tells(False, row, good)
        inner[1] = of("A number number", "A number number number", "A number number")
        good = of("A number", "A number number", "A number number [ A number number -- A number number ]",
                  "A number number [ A number number -- A number number ] [ A number number -- A number number ]",
                  "A number number [ A number number -- A number number ]", "A number number",
                  inner=[None, inner[1], of("A number number", "A number number"), None, None])
        self.tells(True, row, good)
        kinds, within = good
        for at, each in enumerate(kinds):
            for other in (("B", each[1]), ("", each[1]), (each[0], each[1][:-1]), (each[0], each[1] + (("number",),)),
                          (each[0], (("open", "a"),) + each[1][1:])):
                if other != each:
                    self.tells(False, row, (kinds[:at] + (other,) + kinds[at + 1:], within))
            self.tells(False, row, (kinds[:at] + kinds[at + 1:], within))
            self.tells(False, row, (kinds[:at] + (each,) + kinds[at:], within))
        for at, each in enumerate(within):
            self.tells(False, row, (kinds, within[:at] + within[at + 1:]))
            self.tells(False, row, (kinds, within[:at] + (each,) + within[at:]))
            for other in (None, (), (None,), of("A"), True, 0, [], ""):
                if other != each:
                    self.tells(False, row, (kinds, within[:at] + (other,) + within[at + 1:]))

    def test_told_words(self):
        self.tells(True, "f", of("A number", "A number number"), BOOK, KINDS)
        self.tells(True, "f g", of("A a", "A a a", "A"), BOOK, KINDS)
        self.tells(True, "1 f { } f", of("", "number", "number number", "number number { a }",
                                         "number number { a } { a }", inner=[None, None, (), None]), BOOK, KINDS)
        self.tells(True, "[ f ]", of("A", "A [ a -- a a ]", inner=[of("a", "a a")]), BOOK, KINDS)
        self.tells(False, "f", of("A number", "A number"), BOOK, KINDS)
        self.tells(False, "g", of("A number", "A number number"), BOOK, KINDS)
        self.tells(False, "f", of("A number", "A number number", inner=[of("A number", "A number number")]), BOOK, KINDS)

    def test_a_told_word_has_the_kind_that_is_handed_in(self):
        other = (read_kind("A -- A number"), read_kind("--"))
        self.tells(True, "f", of("A a", "A a number"), BOOK, other)
        self.tells(False, "f", of("A a", "A a a"), BOOK, other)
        self.tells(True, "g", of("", ""), BOOK, other)
        self.tells(False, "g", of("A", "A"), BOOK, other)

    def test_told_words_without_a_book_or_kinds(self):
        derivation = of("A number", "A number number")
        for book, kinds in ((None, None), (None, KINDS), (BOOK, None), ((), KINDS), (BOOK, ()), (BOOK[1:], KINDS[1:])):
            self.tells(False, "f", derivation, book, kinds)
            self.tells(False, "[ f ]", of("A", "A [ number -- number number ]", inner=[of("number", "number number")]),
                       book, kinds)
        self.assertIs(derives(("f",), derivation), False)
        self.tells(True, "a-aa", derivation, None, None)
        self.tells(True, "a-aa", derivation, BOOK, None)

    def test_a_text_without_a_kind(self):
        for text in ("", "a-b", "a--", "ba-", "A", "f", "number", "abcdefghi-", "a-aaaaaaaaaaaaa"):
            self.tells(False, (text,), of("A", "A"))
            self.tells(False, (text,), of("A a", "A a"))
            self.tells(False, (("push", ("row", (text,))),), of("A", "A [ A -- A ]", inner=[of("A", "A")]))

    def test_anything(self):
        rows = [(), ("plus",), read_row("7"), read_row("[ ]"), read_row("{ }"), read_row("{ 1 }"), read_row("[ plus ] do"),
                ("f",), ("",)]
        good = of("A", "A")
        for row in rows:
            for odd in oddities():
                many = len(row)
                for derivation in (odd, (odd,), (odd, odd), (stacks("A") * (many + 1), odd), (odd, (None,) * many),
                                   ((odd,) * (many + 1), (None,) * many), (odd, (None,) * many, odd)):
                    self.assertIs(derives(row, derivation), False, (row, derivation))
            for odd in oddities():
                self.assertIs(derives(("-",), (good[0], (odd,))), odd is None)
        for row, kinds in (("[ ]", stacks("A", "A [ A -- A ]")), ("{ 1 }", stacks("A", "A { number }")),
                           ("{ [ ] }", stacks("A", "A { [ A -- A ] }"))):
            for odd in oddities():
                # For a list with one number just this stands within.
                self.tells(row == "{ 1 }" and repr(odd) == "(None,)", row, (kinds, (odd,)))
                self.tells(False, row, (kinds, ((odd, odd),)))

    def test_lists_in_the_place_of_tuples_and_parts_too_many(self):
        good = of("A number", "A number number")
        self.tells(True, "a-aa", good)
        self.tells(False, "a-aa", list(good))
        self.tells(False, "a-aa", (list(good[0]), good[1]))
        self.tells(False, "a-aa", (good[0], list(good[1])))
        self.tells(False, "a-aa", (tuple([list(each) for each in good[0]]), good[1]))
        self.tells(False, "a-aa", (tuple([(each[0], list(each[1])) for each in good[0]]), good[1]))
        self.tells(False, "a-aa", good + (None,))
        self.tells(False, "a-aa", good[:1])
        self.tells(False, "a-aa", (good[1], good[0]))
        self.tells(False, "a-aa", ())
        self.tells(False, "a-aa", True)

    def test_very_deep(self):
        for mark in (None, "A", "row", "list", "open"):
            deep = nested(100, mark)
            self.tells(False, "[ ]", deep)
            self.tells(False, "[ ]", (stacks("A", "A [ A -- A ]"), (deep,)))
            self.tells(False, "[ ]", (deep, deep))
            self.tells(False, "[ ]", ((deep, deep), (None,)))
            self.tells(False, "{ }", (stacks("A", "A { a }"), (deep,)))
        row, derivation = (), of("A")
        for at in range(1200):
            first, last = kind_by(derivation)
            row = (("push", ("row", row)),)
            derivation = ((("A", ()), ("A", (("row", first, last),))), (derivation,))
        self.tells(True, row, derivation)
        self.tells(False, row, (derivation[0], (None,)))
        row, derivation, kind = ("number", 7), None, ("number",)
        for at in range(1200):
            row, derivation, kind = ("list", (row,)), (derivation,), ("list", kind)
        self.tells(True, (("push", row),), ((("A", ()), ("A", (kind,))), (derivation,)))
        self.tells(False, (("push", row),), ((("A", ()), ("A", (("list", kind),))), (derivation,)))


class KindBy(unittest.TestCase):

    def test_the_ends(self):
        self.assertEqual(kind_by(of("A")), stacks("A", "A"))
        self.assertEqual(kind_by(of("A number", "A a")), stacks("A number", "A a"))
        self.assertEqual(kind_by(of("B", "C", "D a", "")), stacks("B", ""))


class FilledBy(unittest.TestCase):

    def test_all_kinds(self):
        by = filling(A="B number", a="{ b }")
        self.assertEqual(filled_by(of("A a", "A a a"), by), of("B number { b }", "B number { b } { b }"))
        self.assertEqual(filled_by(of("A"), by), of("B number"))
        self.assertEqual(filled_by(of("C b"), by), of("C b"))

    def test_within_pushed_rows_and_lists(self):
        by = filling(A="", B="C number", a="number")
        inner = of("B a", "B a a")
        filled_inner = of("C number number", "C number number number")
        for within, filled_within in (
            (None, None),
            ((), ()),
            (inner, filled_inner),
            ((None,), (None,)),
            ((None, None), (None, None)),
            ((inner,), (filled_inner,)),
            ((inner, inner), (filled_inner, filled_inner)),
            ((inner, inner, inner), (filled_inner, filled_inner, filled_inner)),
            (((), ()), ((), ())),
            (((),), ((),)),
            (((inner, inner), (inner, inner)), ((filled_inner, filled_inner), (filled_inner, filled_inner))),
            (((inner,), ()), ((filled_inner,), ())),
            (((), (inner,)), ((), (filled_inner,))),
            (of("A", "A a", inner=[inner]), of("", "number", inner=[filled_inner])),
            (of("A", "A a", inner=[(inner, inner)]), of("", "number", inner=[(filled_inner, filled_inner)])),
            (of("B"), of("C number")),
            ((of("B"), of("A")), (of("C number"), of(""))),
            (((of("B"), of("A")), (of("A"), of("B"))), ((of("C number"), of("")), (of(""), of("C number")))),
            ((None, inner), (None, filled_inner)),
            ((inner, None), (filled_inner, None)),
            (((), None), ((), None)),
            ((None, ()), (None, ())),
        ):
            told = filled_by(of("A", "A a", "A", inner=[within, None]), by)
            self.assertEqual(told, of("", "number", "", inner=[filled_within, None]), within)

    def test_what_is_let_by_stays_so(self):
        rows = {
            "{ [ plus ] [ minus ] }": of("A", "A { [ B number number -- B number ] }", inner=[
                (of("B number number", "B number"), of("B number number", "B number"))]),
            "[ a-aa ] { } { { } { } }": of(
                "A", "A [ B a -- B a a ]", "A [ B a -- B a a ] { b }", "A [ B a -- B a a ] { b } { { a } }",
                inner=[of("B a", "B a a"), (), ((), ())]),
        }
        for text, derivation in rows.items():
            row = read_row(text)
            self.assertIs(derives(row, derivation), True)
            for by in fillings_in(82, 50):
                told = filled_by(derivation, by)
                self.assertIs(derives(row, told), True)
                self.assertEqual(kind_by(told), filled_row(kind_by(derivation), by))

    def test_no_names(self):
        derivation = of("A", "A [ B a -- B a a ]", inner=[of("B a", "B a a")])
        self.assertEqual(filled_by(derivation, ()), derivation)

    def test_very_deep(self):
        derivation, filled = of("A"), of("B number")
        for at in range(2000):
            derivation, filled = of("A", "A", inner=[(derivation,)]), of("B number", "B number", inner=[(filled,)])
        told = filled_by(derivation, filling(A="B number"))
        while told != of("B number"):
            self.assertEqual(told[0], filled[0])
            told, filled = told[1][0][0], filled[1][0][0]
            if len(told[1]) == 0:
                break
        self.assertEqual(told, filled)


class BookDerives(unittest.TestCase):

    papers = (of("A a", "A a a"), of("A a b", "A"))

    def tells(self, truth, book, kinds, papers):
        self.assertIs(book_derives(book, kinds, papers), truth, (book, kinds, papers))

    def test_ordinary_ones(self):
        self.tells(True, BOOK, KINDS, self.papers)
        self.tells(True, (), (), ())
        self.tells(True, None, (), ())

    def test_a_word_in_the_row_of_another_one_or_its_own(self):
        book = (("f", None, ("g",)), ("g", read_kind("A number -- A number"), ("f", "g")))
        kinds = (read_kind("A number -- A number"),) * 2
        papers = (of("A number", "A number"), of("A number", "A number", "A number"))
        self.tells(True, book, kinds, papers)
        self.tells(False, book, (read_kind("A -- A"), kinds[1]), (of("A", "A"), papers[1]))

    def test_papers_of_another_word(self):
        self.tells(False, BOOK, KINDS, self.papers[::-1])
        self.tells(False, BOOK, KINDS, self.papers[:1] * 2)
        self.tells(False, BOOK, KINDS[::-1], self.papers)
        self.tells(False, BOOK, KINDS, (of("A a", "A a"), self.papers[1]))

    def test_a_kind_with_other_names_than_the_papers(self):
        self.tells(False, BOOK, (read_kind("A b -- A b b"), KINDS[1]), self.papers)
        self.tells(False, BOOK, (read_kind("B a -- B a a"), KINDS[1]), self.papers)
        self.tells(False, BOOK, (KINDS[0], read_kind("A b a -- A")), self.papers)
        self.tells(True, BOOK, (read_kind("B b -- B b b"), KINDS[1]), (of("B b", "B b b"), self.papers[1]))

    def test_a_kind_that_is_not_the_papers(self):
        self.tells(False, BOOK, (read_kind("A number -- A number number"), KINDS[1]), self.papers)
        self.tells(False, BOOK, (read_kind("A -- A a"), KINDS[1]), self.papers)
        self.tells(True, BOOK, (read_kind("A number -- A number number"), KINDS[1]),
                   (of("A number", "A number number"), self.papers[1]))

    def test_a_told_kind(self):
        for told, truth in (("A a b -- A", True), ("B b a -- B", True), ("Z9 x y3 -- Z9", True), ("A a a -- A", False),
                            ("A number number -- A", False), ("A a b -- B", False), ("a b --", False), ("A -- A", False)):
            book = (BOOK[0], ("g", read_kind(told), ("ab-",)))
            self.tells(truth, book, KINDS, self.papers)

    def test_one_too_many_or_too_few(self):
        self.tells(False, BOOK, KINDS + (TOLD,), self.papers)
        self.tells(False, BOOK, KINDS, self.papers + (of("A a", "A a a"),))
        self.tells(False, BOOK, KINDS + (TOLD,), self.papers + (of("A a", "A a a"),))
        self.tells(False, BOOK, KINDS[:1], self.papers)
        self.tells(False, BOOK, KINDS, self.papers[:1])
        self.tells(False, BOOK, KINDS[:1], self.papers[:1])
        self.tells(False, BOOK, (), ())
        self.tells(False, (), KINDS, self.papers)
        self.tells(False, None, KINDS[:1], self.papers[:1])
        self.tells(False, (), ((),), ((),))

    def test_anything(self):
        for odd in oddities():
            self.tells(False, BOOK, odd, self.papers)
            self.tells(False, BOOK, KINDS, odd)
            self.tells(False, BOOK, odd, odd)
            self.tells(False, BOOK, (odd, KINDS[1]), self.papers)
            self.tells(False, BOOK, (KINDS[0], (odd, KINDS[1][1])), self.papers)
            self.tells(False, BOOK, KINDS, (odd, self.papers[1]))
            self.tells(False, BOOK, (odd, odd), (odd, odd))
            self.tells(False, (), odd, odd)
        self.tells(False, BOOK, list(KINDS), self.papers)
        self.tells(False, BOOK, KINDS, list(self.papers))
        self.tells(False, BOOK, tuple([list(kind) for kind in KINDS]), self.papers)

    def test_nothing_that_is_handed_in_is_changed(self):
        kinds, papers = [list(kind) for kind in KINDS], [list(paper) for paper in self.papers]
        before = repr((kinds, papers))
        self.tells(False, BOOK, kinds, papers)
        self.tells(False, BOOK, KINDS, tuple(papers))
        self.assertEqual(repr((kinds, papers)), before)
