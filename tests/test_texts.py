"""How rows and stacks are written and read."""

import unittest

from takeleave.errors import NoText
from takeleave.texts import read_row, read_stack, show_row, show_stack
from tests.samples import oddities, rows_in, things_in

ONE = ("number", 1)

ROWS = {
    "": (),
    "plus": ("plus",),
    "a-aa times": ("a-aa", "times"),
    "-": ("-",),
    "f a- abcdefgh plusone": ("f", "a-", "abcdefgh", "plusone"),
    "number": ("number",),
    "0": (("push", ("number", 0)),),
    "7 12 plus": (("push", ("number", 7)), ("push", ("number", 12)), "plus"),
    "999999999999": (("push", ("number", 10 ** 12 - 1)),),
    "100000000000 10": (("push", ("number", 10 ** 11)), ("push", ("number", 10))),
    "[ ]": (("push", ("row", ())),),
    "{ }": (("push", ("list", ())),),
    "[ ] [ ] do": (("push", ("row", ())), ("push", ("row", ())), "do"),
    "[ 1 plus ] dip": (("push", ("row", (("push", ONE), "plus"))), "dip"),
    "{ 1 1 } [ f ] each": (("push", ("list", (ONE, ONE))), ("push", ("row", ("f",))), "each"),
    "{ [ f ] { } 1 }": (("push", ("list", (("row", ("f",)), ("list", ()), ONE))),),
    "[ { 1 } ]": (("push", ("row", (("push", ("list", (ONE,))),))),),
}

STACKS = {
    "": (),
    "0": (("number", 0),),
    "1 999999999999": (ONE, ("number", 10 ** 12 - 1)),
    "[ ] { }": (("row", ()), ("list", ())),
    "1 [ 1 plus ] { 1 [ ] }": (ONE, ("row", (("push", ONE), "plus")), ("list", (ONE, ("row", ())))),
    "{ { { 1 } } }": (("list", (("list", (("list", (ONE,)),)),)),),
}

NOT_WRITTEN_SO = (
    " ", "  ", " 1", "1 ", "1  1", "[  ]", "[ ] ", " [ ]", "{  }", "\n", "1\n", "1\n1", "\n1", "1 \n 1", "1\t1", "\t",
    "01", "00", "007", "1000000000000", "9999999999999", "-1", "+1", "1.0", "1_0", "0x1", "1a", "a1", "1" * 2000,
    "\u0661", "\u00b2", "1\u00a01", "\u00e9", "\ud800", "[", "]", "{", "}", "[ }", "{ ]", "[ 1", "1 ]", "{ 1", "1 }",
    "] [", "} {", "[ { ] }", "{ [ } ]", "[ ] ]", "[ [ ]", "{ } }", "{ { }", "[]", "{}", "[1]", "[ 1]", "[1 ]", "( )",
    "1 [ { [ 1 ] ]", "[ " * 1000, ("[ " * 1000).strip(), ("{ " * 1000).strip(), "] " * 1000, ("[ { " * 500).strip(),
    "{ plus }", "{ f }", "{ 1 a-aa }", "{ - }", "{ { f } }", "[ { f } ]", "{ [ ] f }",
)

NOT_ROWS = (
    "Plus", "PLUS", "abcdefghi", "plusplusp", "a-b", "b-a", "ab-abc", "--", "a--", "abcdefghi-", "a-aaaaaaaaaaaaa",
    "plus ", " plus", "plus  plus", "plus\nplus", "plus\n", "plus,", "[ plus", "plus ]", "[ plus ] ]", "f_", "_", "f:",
)

NO_TEXTS = [odd for odd in oddities() if not isinstance(odd, str)] + [b"", b"1", (), ("1",), ["1"], 1, 0, None, True]


def nest(opening, inside, closing, deep):
    return " ".join([opening] * deep + [inside] * bool(inside) + [closing] * deep)


class Texts(unittest.TestCase):

    def refused(self, read, *texts):
        for text in texts:
            with self.assertRaises(NoText, msg=f"{read.__name__} of {text!r}"[:200]):
                read(text)

    def test_rows_are_written_and_read(self):
        for text, row in ROWS.items():
            self.assertEqual(show_row(row), text)
            self.assertEqual(read_row(text), row)

    def test_stacks_are_written_and_read(self):
        for text, stack in STACKS.items():
            self.assertEqual(show_stack(stack), text)
            self.assertEqual(read_stack(text), stack)

    def test_brackets_six_deep(self):
        row, held, both = (), (), ONE
        for at in range(6):
            row = (("push", ("row", row)),)
            held = (("list", held),)
            both = ("list", (("row", (("push", both),)),))
        self.assertEqual(show_row(row), nest("[", "", "]", 6))
        self.assertEqual(read_row(nest("[", "", "]", 6)), row)
        self.assertEqual(show_stack(held), nest("{", "", "}", 6))
        self.assertEqual(read_stack(nest("{", "", "}", 6)), held)
        self.assertEqual(read_stack(nest("{ [", "1", "] }", 6)), (both,))
        self.assertEqual(show_stack((both,)), nest("{ [", "1", "] }", 6))

    def test_brackets_a_hundred_deep(self):
        for read, show in ((read_row, show_row), (read_stack, show_stack)):
            for opening, closing in (("[", "]"), ("{", "}"), ("[ {", "} ]")):
                text = nest(opening, "1", closing, 100)
                self.assertEqual(show(read(text)), text)
                self.refused(read, text + " " + closing, opening + " " + text)

    def test_what_is_not_written_so(self):
        self.refused(read_row, *NOT_WRITTEN_SO, *NOT_ROWS)
        self.refused(read_stack, *NOT_WRITTEN_SO, *NOT_ROWS)

    def test_words_are_no_things_of_a_stack(self):
        self.refused(read_stack, "plus", "f", "-", "a-aa", "1 plus", "plus 1", "[ ] do", "a", "number")
        self.assertEqual(read_stack("[ plus f - ]"), (("row", ("plus", "f", "-")),))

    def test_no_texts(self):
        self.refused(read_row, *NO_TEXTS)
        self.refused(read_stack, *NO_TEXTS)

    def test_written_is_read_as_the_same(self):
        for row in rows_in(11, 300):
            self.assertEqual(read_row(show_row(row)), row)
        for thing in things_in(12, 300):
            self.assertEqual(read_stack(show_stack((thing, thing))), (thing, thing))

    def test_more_than_the_bounds(self):
        text = " ".join(["f"] * 900)
        self.assertEqual(show_row(read_row(text)), text)
        text = " ".join(["7"] * 900)
        self.assertEqual(show_stack(read_stack(text)), text)

    def test_with_a_sign_more_it_is_refused_or_written_as_it_was_read(self):
        for text in list(ROWS) + list(STACKS):
            for at in range(len(text) + 1):
                for sign in " 0[]{}-aZ\n":
                    changed = text[:at] + sign + text[at:]
                    for read, show in ((read_row, show_row), (read_stack, show_stack)):
                        try:
                            got = read(changed)
                        except NoText:
                            continue
                        self.assertEqual(show(got), changed)
