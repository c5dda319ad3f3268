"""The kinds of a book, found told word by told word, and the papers that let them by."""

import unittest

from takeleave.derivations import book_derives, kind_by
from takeleave.errors import NoBook
from takeleave.bookkinds import kinds_of, papers_of
from takeleave.finder import found_kind
from takeleave.kinds import told_form
from takeleave.kindtexts import read_kind, show_kind
from takeleave.texts import read_row


def book_of(*words):
    """A book of told words, each written as on a desk: name, perhaps a kind, and behind a colon the row."""
    book = []
    for text in words:
        head, row = text.split(" : ") if " : " in text else (text[:-2], "")
        name, stroke, kind = head.partition(" ")
        book.append((name, read_kind(kind) if kind else None, read_row(row)))
    return tuple(book)


class Kinds(unittest.TestCase):

    def told(self, book, *kinds):
        told = kinds_of(book)
        self.assertEqual([show_kind(*kind) for kind in told], list(kinds))
        papers = papers_of(book)
        self.assertIs(book_derives(book, told, papers), True)
        self.assertEqual(tuple([kind_by(paper) for paper in papers]), told)
        for kind in told:
            self.assertEqual(kind, told_form(*kind))

    def test_a_book_without_words(self):
        for book in ((), None):
            self.assertEqual(kinds_of(book), ())
            self.assertEqual(papers_of(book), ())

    def test_told_without_a_kind(self):
        self.told(book_of("f : a-aa"), "A a -- A a a")
        self.told(book_of("f :"), "A -- A")
        self.told(book_of("f : a-aa times", "g : f f plus", "h : [ g ] dip"), "A number -- A number",
                  "A number number -- A number", "A number number a -- A number a")
        self.told(book_of("f : a-aa", "g : 1 f { } f"), "A a -- A a a", "A -- A number number { a } { a }")

    def test_told_with_a_kind(self):
        self.told(book_of("f A a -- A a a : a-aa"), "A a -- A a a")
        self.told(book_of("f Z9 q -- Z9 q q : a-aa"), "A a -- A a a")
        self.told(book_of("f B number -- B number number : a-aa"), "A number -- A number number")
        self.told(book_of("f number -- number number : a-aa"), "number -- number number")
        self.told(book_of("f B [ C -- D ] -- B [ C -- D ] :"),
                  "A [ B -- C ] -- A [ B -- C ]")
        self.told(book_of("f b a -- b a : ab-ba ab-ba"), "a b -- a b")

    def test_names_of_a_told_kind_that_the_paper_has_elsewhere(self):
        # Of the row of this word the found kind has the names A and a, its derivation also B, C and b.
        self.told(book_of("f C b -- C b : [ ] { } a- a-"), "A a -- A a")
        self.told(book_of("f B b { a } -- B b { a } : [ a- ] [ ] a- a- { } a-"), "A a { b } -- A a { b }")

    def test_in_either_order(self):
        self.told(book_of("f A number -- A : a-", "g : f f"), "A number -- A", "A number number -- A")
        self.told(book_of("g : f f", "f A number -- A : a-"), "A number number -- A", "A number -- A")
        self.told(book_of("g : f f", "f A number -- A : 1 plus h", "h : a-"), "A number number -- A", "A number -- A",
                  "A a -- A")

    def test_told_by_itself(self):
        self.told(book_of("f A number -- A number : a-aa [ 1 minus f ] [ ] if"), "A number -- A number")
        self.told(book_of("f A -- B : f"), "A -- B")
        self.told(book_of("f A -- B : [ f ] do f"), "A -- B")
        self.told(book_of("f A { a } -- A number : [ ab-ba a- f 1 plus ] [ 0 ] part"), "A { a } -- A number")

    def test_at_each_place_of_its_own_row_with_a_kind_of_its_own(self):
        self.told(book_of("f A a -- A a : 1 f a- { } f a-"), "A a -- A a")

    def test_two_by_each_other(self):
        self.told(book_of("f A number -- A number : 1 g", "g A number number -- A number : plus f"),
                  "A number -- A number", "A number number -- A number")
        self.told(book_of("f A number -- A number : 1 g", "g : plus f"),
                  "A number -- A number", "A number number -- A number")
        self.told(book_of("g : plus f", "f A number -- A number : 1 g"),
                  "A number number -- A number", "A number -- A number")

    def test_eight_words(self):
        book = book_of("a : 1 plus", "b : a a", "c : b b", "d : c c", "e : d d", "f : e e", "g : f f", "h : g g")
        self.told(book, *["A number -- A number"] * 8)
        papers = papers_of(book)
        self.assertEqual(found_kind(read_row("h"), book, kinds_of(book))[0], kinds_of(book)[7])
        self.assertIs(book_derives(book, kinds_of(book), papers[::-1]), False)


class Refused(unittest.TestCase):

    def refused(self, book, number, what):
        for asked in (kinds_of, papers_of):
            with self.assertRaises(NoBook) as caught:
                asked(book)
            self.assertEqual((caught.exception.number, caught.exception.what), (number, what), book)

    def test_a_name_that_the_book_has_not(self):
        self.refused(book_of("f : plus g"), 0, ("word", (1,)))
        self.refused(book_of("f :", "g : { 1 [ f h ] }"), 1, ("word", (0, 1, 1)))
        self.refused(book_of("f A -- A : f [ g ]"), 0, ("word", (1, 0)))
        self.refused((("f", None, ("plus", "a-b")),), 0, ("word", (1,)))
        self.refused((("f", read_kind("A -- A"), ("plus", "")),), 0, ("word", (1,)))

    def test_a_later_one_or_itself_without_a_kind(self):
        self.refused(book_of("f : 1 f"), 0, ("word", (1,)))
        self.refused(book_of("f : [ f ]"), 0, ("word", (0, 0)))
        self.refused(book_of("f : g", "g :"), 0, ("word", (0,)))
        self.refused(book_of("e : 1", "f : e g", "g : e"), 1, ("word", (1,)))
        self.refused(book_of("f : g", "g : f"), 0, ("word", (0,)))

    def test_a_row_without_a_kind(self):
        self.refused(book_of("f : 2 1 do"), 0, ("kind", ((1,), (2,))))
        self.refused(book_of("f :", "g : [ a-aa do ]"), 1, ("kind", ((0, 0), (0, 1))))
        self.refused(book_of("f A -- A : 1 do"), 0, ("kind", ((0,), (1,))))
        self.refused(book_of("f A number -- A : a-", "g : { } f"), 1, ("kind", ((0,), (1,))))

    def test_a_told_kind_that_the_row_has_not(self):
        for text in ("f A -- A number : a-aa", "f A a -- A a number : a-aa", "f A a -- A a : a-aa", "f -- number : a-aa",
                     "f A a -- B a a : a-aa", "f A a -- A b b : a-aa", "f A a -- A : plus a-", "f A -- B :",
                     "f a -- a number : 7 8"):
            self.refused(book_of(text), 0, ("told",))
        self.refused(book_of("e : 7", "f A -- A { a } : e"), 1, ("told",))
        self.refused(book_of("f A number -- A number : f 1"), 0, ("told",))

    def test_which_of_several(self):
        # Those without a told kind go first, in order.
        self.refused(book_of("f A -- B : g", "g : 1 do", "h : i"), 1, ("kind", ((0,), (1,))))
        self.refused(book_of("f A -- B : 1", "g : i", "h : 1 do"), 1, ("word", (0,)))
        self.refused(book_of("f A -- B : i", "g :", "h : 1 do"), 2, ("kind", ((0,), (1,))))
        self.refused(book_of("f A -- B : g", "g : h", "h : 1"), 1, ("word", (0,)))
        # Then those with one.
        self.refused(book_of("e :", "f A -- B : 1", "g A -- A : 1 do"), 1, ("told",))
        self.refused(book_of("e :", "g A -- A : 1 do", "f A -- B : 1"), 1, ("kind", ((0,), (1,))))
        # In one row what is no word goes first, then what does not go together, then the told kind.
        self.refused(book_of("f : 1 do g"), 0, ("word", (2,)))
        self.refused(book_of("f A -- B : 1 do g"), 0, ("word", (2,)))
        self.refused(book_of("f A -- B : 1 do"), 0, ("kind", ((0,), (1,))))

    def test_nothing_that_is_handed_in_is_changed(self):
        book = book_of("f Z9 q -- Z9 q q : a-aa", "g : f f")
        before = repr(book)
        kinds_of(book)
        papers_of(book)
        self.assertEqual(repr(book), before)
