"""Told words that come to themselves, and told words put in place."""

import unittest

from takeleave.bookkinds import kinds_of
from takeleave.errors import NoBook, NoKind, NoWord
from takeleave.fillings import filling_to
from takeleave.finder import found_kind
from takeleave.kinds import told_form
from takeleave.kindtexts import read_kind, show_kind
from takeleave.placing import comes_to_itself, in_place, stack_in_place
from takeleave.runs import run
from takeleave.texts import read_row, read_stack, show_row, show_stack
from tests.counted import STRIDE, WORDS, counted_rows, counted_stacks


def book_of(**rows):
    return tuple([(name, None, read_row(text)) for name, text in rows.items()])


class Coming(unittest.TestCase):

    def test_each_way(self):
        book = book_of(
            f="1 plus", direct="1 direct", pushed="[ pushed ] a-", deep="[ [ 1 [ deep ] do ] ] a-",
            listed="{ 1 [ listed ] } a-", twice="{ { [ 1 ] [ twice ] } } a-", one="other", other="f [ one ] do",
        )
        told = {name: comes_to_itself(name, book) for name, kind, row in book}
        self.assertEqual(told, {"f": False, "direct": True, "pushed": True, "deep": True, "listed": True, "twice": True,
                                "one": True, "other": True})

    def test_a_ring_that_it_only_leads_to(self):
        book = book_of(a="b", b="c", c="b f", f="")
        self.assertEqual([comes_to_itself(name, book) for name in "abcf"], [False, True, True, False])
        book = book_of(a="b c", b="c d", c="d", d="e", e="f", f="g", g="h", h="a")
        for name in "abcdefgh":
            self.assertIs(comes_to_itself(name, book), True)
        book = book_of(a="b c", b="c d", c="d", d="e", e="f", f="g", g="h", h="")
        for name in "abcdefgh":
            self.assertIs(comes_to_itself(name, book), False)

    def test_a_name_that_the_book_has_not(self):
        for name in ("nought", "plus", "a", "zzzzzzzz"):
            for book in ((), None, book_of(f="nought plus", g="[ nought ] zzzzzzzz")):
                self.assertIs(comes_to_itself(name, book), False)

    def test_names_that_begin_alike(self):
        book = book_of(f="ff", ff="fff", fff="", fg="f fgf", g="gg", gg="g")
        self.assertEqual([comes_to_itself(name, book) for name in ("f", "ff", "fff", "fg", "g", "gg")],
                         [False, False, False, False, True, True])

    def test_told_kinds_do_not_matter(self):
        kind = read_kind("A number -- A number")
        book = (("f", kind, read_row("[ f ] [ ] if")), ("g", kind, read_row("1 plus")))
        self.assertEqual([comes_to_itself(name, book) for name in "fg"], [True, False])


class Placing(unittest.TestCase):

    book = book_of(f="1 plus", none="", ff="f f", deep="[ f { 1 [ f ] } ] do", far="a- [ ]")

    def test_rows(self):
        for text, name, told in (
            ("", "f", ""),
            ("f", "f", "1 plus"),
            ("f f", "f", "1 plus 1 plus"),
            ("1 f plus", "f", "1 1 plus plus"),
            ("ff", "f", "ff"),
            ("ff f far fa", "f", "ff 1 plus far fa"),
            ("ff f", "ff", "f f f"),
            ("[ f ]", "f", "[ 1 plus ]"),
            ("[ [ f ] f ] f", "f", "[ [ 1 plus ] 1 plus ] 1 plus"),
            ("{ [ f ] 1 { [ f ] } }", "f", "{ [ 1 plus ] 1 { [ 1 plus ] } }"),
            ("[ { [ f ] } ] f", "f", "[ { [ 1 plus ] } ] 1 plus"),
            ("none", "none", ""),
            ("none 1 none", "none", "1"),
            ("[ none ] { [ none none ] }", "none", "[ ] { [ ] }"),
            ("deep deep", "deep", "[ f { 1 [ f ] } ] do [ f { 1 [ f ] } ] do"),
            ("[ deep ]", "f", "[ deep ]"),
            ("far far", "far", "a- [ ] a- [ ]"),
            ("nought f", "nought", "nought f"),
            ("f", "nought", "f"),
            ("plus minus", "plus", "plus minus"),
            ("abc-bca 10 2 110", "f", "abc-bca 10 2 110"),
        ):
            self.assertEqual(show_row(in_place(read_row(text), name, self.book)), told, (text, name))

    def test_stacks(self):
        for text, name, told in (
            ("", "f", ""),
            ("1 [ ]", "f", "1 [ ]"),
            ("[ f ] { [ f ff ] 2 }", "f", "[ 1 plus ] { [ 1 plus ff ] 2 }"),
            ("[ none ] { [ none ] }", "none", "[ ] { [ ] }"),
            ("[ [ [ f ] ] ]", "f", "[ [ [ 1 plus ] ] ]"),
        ):
            self.assertEqual(show_stack(stack_in_place(read_stack(text), name, self.book)), told, (text, name))

    def test_without_a_book(self):
        for book in (None, ()):
            self.assertEqual(in_place(("f",), "f", book), ("f",))
            self.assertEqual(stack_in_place(read_stack("[ f ]"), "f", book), read_stack("[ f ]"))

    def test_deep_things(self):
        thing = other = ("number", 1)
        for at in range(100):
            thing = ("row", ("f", ("push", thing)))
            other = ("row", read_row("1 plus") + (("push", other),))
        self.assertEqual(show_stack(stack_in_place((thing,), "f", self.book)), show_stack((other,)))
        self.assertEqual(show_row(in_place((("push", thing), "f"), "f", self.book)),
                         show_row((("push", other),) + read_row("1 plus")))

    def test_what_is_handed_in_stays(self):
        row, stack = read_row("f [ f ]"), read_stack("[ f ]")
        before = repr((row, stack, self.book))
        in_place(row, "f", self.book)
        stack_in_place(stack, "f", self.book)
        self.assertEqual(repr((row, stack, self.book)), before)


class Promised(unittest.TestCase):

    narrow = read_kind("A number number -- A number number")
    book = (("f", None, read_row("[ 1 plus ] dip")), ("g", None, read_row("f [ f ] do")),
            ("swap", narrow, read_row("ab-ba")), ("h", None, read_row("swap [ swap ] do f")), ("none", None, ()))
    words = WORDS[:16] + read_row("f [ f ] g swap [ swap ] { [ f ] } [ [ f ] do ] h none dip")

    def rows(self):
        return counted_rows(400, self.words, STRIDE * 31) + counted_rows(150, self.words, STRIDE ** 2)

    def kind_of(self, row, book):
        try:
            return found_kind(row, book, kinds_of(book))[0]
        except (NoKind, NoWord):
            return None

    def test_found_kinds(self):
        found = {"f": 0, "swap": 0}
        for row in self.rows():
            ahead = self.kind_of(row, self.book)
            for name in found:
                behind = self.kind_of(in_place(row, name, self.book), self.book)
                if name == "f":
                    self.assertEqual(behind, ahead, show_row(row))
                elif ahead is not None:
                    self.assertIsNotNone(behind, show_row(row))
                    self.assertIsNotNone(filling_to(behind, ahead), show_row(row))
                found[name] += ahead is not None and name in show_row(row).split(" ")
        self.assertGreater(min(found.values()), 20)

    def test_a_kind_that_is_told_may_be_narrower(self):
        row = read_row("swap")
        self.assertEqual(show_kind(*self.kind_of(row, self.book)), "A number number -- A number number")
        self.assertEqual(show_kind(*self.kind_of(in_place(row, "swap", self.book), self.book)), "A a b -- A b a")

    def test_runs(self):
        compared = {"ended": 0, "fault": 0}
        for name in ("f", "g", "swap", "none"):
            for row in self.rows()[::4]:
                behind = in_place(row, name, self.book)
                for stack in counted_stacks(12, read_stack("1 [ plus ] [ f ] { 2 } { [ swap ] }")):
                    how, steps, (end, todo) = run(row, stack, 150, self.book)
                    other, more, (other_end, rest) = run(behind, stack_in_place(stack, name, self.book), 150, self.book)
                    if "on" in (how, other):
                        continue
                    compared[how] += 1
                    self.assertEqual(other, how, (show_row(row), show_stack(stack)))
                    if how == "ended":
                        self.assertEqual(stack_in_place(end, name, self.book), other_end, show_row(row))
        self.assertGreater(min(compared.values()), 300)

    def test_books_stay_found(self):
        for name, told, row in self.book:
            book = tuple([(each, kind, in_place(line, name, self.book)) for each, kind, line in self.book])
            try:
                kinds = kinds_of(book)
            except NoBook:
                self.fail(name)
            for behind, ahead in zip(kinds, kinds_of(self.book)):
                self.assertIsNotNone(filling_to(behind, ahead))
                if told is None:
                    self.assertEqual(told_form(*behind), told_form(*ahead))
