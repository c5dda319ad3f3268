"""How a row's kind is written and read."""

import unittest

from takeleave.errors import NoText
from takeleave.kindtexts import read_kind, show_kind
from tests.samples import oddities, row_kinds_in

NUMBER = ("number",)
A, B, NONE = ("A", ()), ("B", ()), ("", ())

KINDS = {
    "--": (NONE, NONE),
    "A --": (A, NONE),
    "-- A": (NONE, A),
    "A -- B": (A, B),
    "-- number": (NONE, ("", (NUMBER,))),
    "number --": (("", (NUMBER,)), NONE),
    "A number number -- A number": (("A", (NUMBER, NUMBER)), ("A", (NUMBER,))),
    "A number [ A -- B ] -- B": (("A", (NUMBER, ("row", A, B))), B),
    "A1 a -- A1 a a": (("A1", (("open", "a"),)), ("A1", (("open", "a"), ("open", "a")))),
    "A { a } a -- A { a }": (("A", (("list", ("open", "a")), ("open", "a"))), ("A", (("list", ("open", "a")),))),
    "[ -- ] -- { [ -- ] }": (("", (("row", NONE, NONE),)), ("", (("list", ("row", NONE, NONE)),))),
    "{ { number } } -- z10": (("", (("list", ("list", NUMBER)),)), ("", (("open", "z10"),))),
    "A [ B a -- [ -- B ] ] b -- A": (
        ("A", (("row", ("B", (("open", "a"),)), ("", (("row", NONE, B),))), ("open", "b"))), A),
    "Z99 [ A number -- ] [ -- A ] --": (
        ("Z99", (("row", ("A", (NUMBER,)), NONE), ("row", NONE, A))), NONE),
}

NOT_WRITTEN_SO = (
    "", " ", "A", "number", "A B", "a", "[ -- ]", "{ a }", "-", "---", "- -", "--  ", "-- ", " --", "A  -- B", "A --  B",
    "A -- B ", " A -- B", "A\n-- B", "A -- B\n", "\nA -- B", "A\t-- B", "A -- B -- C", "-- --", "A -- -- B", "A B -- A",
    "number A -- A", "A -- number B", "a A -- A", "A A -- A", "A [ -- ] B -- A", "{ a } A -- A", "A--B", "A -- B,",
    "a0 --", "A0 --", "a01 --", "A00 -- A", "ab --", "AB -- AB", "aA --", "Number --", "numbers --", "num --", "plus --",
    "1 --", "0 --", "a-aa --", "\u00e4 --", "\u00c4 --", "\u0661 --", "a\u0661 --", "A\u00b2 --", "\ud800 --", "_ --",
    "[ --", "-- [", "] --", "-- ]", "[ -- ] ] --", "[ [ -- ] --", "[ -- -- ] --", "[ ] --", "[ A ] --", "[ A B -- ] --",
    "{ --", "-- {", "} --", "{ } --", "{ a b } --", "{ A } --", "{ A a } --", "{ -- } --", "{ a -- } --", "{ a -- b } --",
    "[ { -- ] } --", "{ [ -- } ] --", "[ { a -- ] } --", "[ a -- b } --", "{ a ] --", "[-- ] --", "[ --] --", "{a} --",
    "[ -- ]--", "( a ) --", "A : number -- A", "[ " * 1000, ("[ " * 1000).strip(), ("[ " * 1000) + "--", "-- " + "{ " * 999,
    "-- " + ("{ " * 999).strip(), ("] " * 1000).strip(),
)

NO_TEXTS = [odd for odd in oddities() if not isinstance(odd, str)] + [b"--", b"A -- B", (), ("--",), ["--"], (A, B), 1]


class KindTexts(unittest.TestCase):

    def test_written_and_read(self):
        for text, (take, leave) in KINDS.items():
            self.assertEqual(show_kind(take, leave), text)
            self.assertEqual(read_kind(text), (take, leave))

    def test_what_is_not_written_so(self):
        for text in NOT_WRITTEN_SO:
            with self.assertRaises(NoText, msg=repr(text)[:100]):
                read_kind(text)

    def test_no_texts(self):
        for thing in NO_TEXTS:
            with self.assertRaises(NoText, msg=repr(thing)[:100]):
                read_kind(thing)

    def test_forty_within_one_another(self):
        rows, lists, both = NUMBER, NUMBER, NUMBER
        for at in range(40):
            rows = ("row", ("A", (rows,)), B)
            lists = ("list", lists)
            both = ("list", ("row", NONE, ("", (both,)))) if at < 20 else both
        for kind, text in (
            (rows, "[ A " * 40 + "number" + " -- B ]" * 40),
            (lists, "{ " * 40 + "number" + " }" * 40),
            (both, "{ [ -- " * 20 + "number" + " ] }" * 20),
        ):
            self.assertEqual(show_kind(("", (kind,)), A), text + " -- A")
            self.assertEqual(read_kind(text + " -- A"), (("", (kind,)), A))
            self.assertEqual(read_kind("A -- " + text), (A, ("", (kind,))))

    def test_more_than_the_bounds(self):
        text = "[ A " * 2000 + "number" + " -- B ]" * 2000 + " -- A" + " a" * 2000
        self.assertEqual(show_kind(*read_kind(text)), text)

    def test_written_is_read_as_the_same(self):
        for take, leave in row_kinds_in(31, 300):
            text = show_kind(take, leave)
            self.assertEqual(read_kind(text), (take, leave))
            self.assertNotIn("  ", text)
            self.assertEqual(text.strip(), text)

    def test_with_a_sign_more_it_is_refused_or_written_as_it_was_read(self):
        for text in KINDS:
            for at in range(len(text) + 1):
                for sign in (" ", "-", "0", "1", "a", "A", " a", "a ", " A", "A ", "[", " ]", " --", "\n"):
                    changed = text[:at] + sign + text[at:]
                    try:
                        take, leave = read_kind(changed)
                    except NoText:
                        continue
                    self.assertEqual(show_kind(take, leave), changed)
