"""Kinds of things, of stacks and of rows, their open names and their told form."""

import unittest

from takeleave.kinds import is_kind, is_row_kind, is_stack_kind, opens_of, told_form
from takeleave.kindtexts import read_kind, show_kind
from tests.samples import oddities, row_kinds_in

NUMBER = ("number",)
A, B = ("A", ()), ("B", ())
NONE = ("", ())

GOOD_ENDS = ("", "1", "9", "10", "12", "90", "100", "123456789012345678901234567890")
BAD_ENDS = ("0", "01", "00", "010", "a", "A", "1a", "1A", "-", "_", " ", "1 ", "-1", "1.0", "\n", "\u0661", "\u00b2", "'")
BAD_NAMES = ("", "1", "1a", " a", "-", "_", "ab", "AB", "aA", "number", "\u00e4", "\u00c4", "\u03b1", "\n", "[", "{")

KINDS = (
    NUMBER, ("open", "a"), ("open", "z"), ("list", NUMBER), ("list", ("list", ("open", "b2"))), ("row", A, B),
    ("row", NONE, NONE), ("row", ("A", (NUMBER, ("open", "a"))), ("", (("list", NUMBER),))), ("list", ("row", A, A)),
    ("row", ("A", (("row", A, B),)), B),
)
STACK_KINDS = (
    NONE, A, ("Z99", ()), ("", (NUMBER,)), ("A", (NUMBER, ("open", "a"), ("list", NUMBER), ("row", A, NONE))),
)

NO_KINDS = (
    "number", "a", (), ("number", ()), ("number", 1), ("number", None), ("number", "number"), ("open",), ("list",),
    ("row",), ("row", A), ("row", A, B, A), ("list", NUMBER, NUMBER), ("list", ()), ("list", A), ("list", (NUMBER,)),
    ("open", "a", "a"), ("open", ("a",)), ("open", ["a"]), ("open", b"a"), ("open", 1), ("open", True), ("open", None),
    ("row", NUMBER, NUMBER), ("row", A, NUMBER), ("row", NUMBER, A), ("row", (A, B)), ("row", "A", "B"),
    ("number", "a"), ("list", "a"), ("", "a"), ("opened", "a"), ("a", "open"), ("row", "a", "a"),
    ("number", A, B), ("list", A, B), ("open", A, B), ("", A, B), ("Row", A, B), ("rows", A, B), (A, B),
    ["number"], ["list", NUMBER], ("list", ["number"]), ("row", ["A", ()], B), ("row", A, ["B", ()]),
    ("row", ("A", []), B), ("row", A, ("B", [NUMBER])), ("Number",), ("numbers",), ("", ), ("push", NUMBER),
    ("row", ("a", ()), B), ("row", A, ("b", ())), ("list", ("list", ("list", ("open", "A")))), True, False, 0, 1,
)
NO_STACK_KINDS = (
    (), ("A",), ("A", (), ()), ("A", NUMBER), ("A", (NUMBER, "a")), ("A", ("number",)), ("A", None), ("A", ""), ("A", []),
    ["A", ()], ("A", [NUMBER]), ("A", (["number"],)), (None, ()), (True, ()), (0, ()), (("A",), ()), (["A"], ()), (b"A", ()),
    ("a", ()), ("a1", (NUMBER,)), ((), ()), ((), "A"), (NUMBER, "A"), NUMBER, ("row", A, B), "A", "", ("A", A), ("A", (A,)),
    ("A", (("open", "A"),)),
)


class TellsTruths(unittest.TestCase):

    def tells(self, asked, truth, *values):
        for value in values:
            self.assertIs(asked(value), truth, f"{asked.__name__} of {value!r}"[:200])


class Forms(TellsTruths):

    def test_kinds_of_things(self):
        self.tells(is_kind, True, *KINDS)
        self.tells(is_kind, False, *NO_KINDS, *STACK_KINDS)

    def test_kinds_of_stacks(self):
        self.tells(is_stack_kind, True, *STACK_KINDS, *[("A", (kind,)) for kind in KINDS], ("", KINDS))
        self.tells(is_stack_kind, False, *NO_STACK_KINDS, *KINDS)
        self.tells(is_stack_kind, False, *[("A", (NUMBER, kind)) for kind in NO_KINDS])

    def test_kinds_of_rows(self):
        for one in STACK_KINDS:
            self.tells(is_row_kind, True, *[(one, other) for other in STACK_KINDS])
            self.tells(is_row_kind, False, *[(one, other) for other in NO_STACK_KINDS])
            self.tells(is_row_kind, False, *[(other, one) for other in NO_STACK_KINDS])
        self.tells(is_row_kind, False, (), (A,), (A, B, A), [A, B], ("row", A, B), A, *KINDS)
        self.tells(is_row_kind, False, "A -- B", True, False, 0, None)

    def test_names_of_open_things(self):
        self.tells(is_kind, True, *[("open", "a" + end) for end in GOOD_ENDS], *[("open", "q" + end) for end in GOOD_ENDS])
        self.tells(is_kind, True, *[("open", letter) for letter in "abcdefghijklmnopqrstuvwxyz"])
        self.tells(is_kind, False, *[("open", "a" + end) for end in BAD_ENDS])
        self.tells(is_kind, False, *[("open", name) for name in BAD_NAMES])
        self.tells(is_kind, False, *[("open", "A" + end) for end in GOOD_ENDS])

    def test_names_of_open_rests(self):
        self.tells(is_stack_kind, True, *[("A" + end, ()) for end in GOOD_ENDS], *[("Q" + end, ()) for end in GOOD_ENDS])
        self.tells(is_stack_kind, True, *[(letter, ()) for letter in "ABCDEFGHIJKLMNOPQRSTUVWXYZ"])
        self.tells(is_stack_kind, False, *[("A" + end, ()) for end in BAD_ENDS])
        self.tells(is_stack_kind, False, *[(name, ()) for name in BAD_NAMES if name])
        self.tells(is_stack_kind, False, *[("a" + end, ()) for end in GOOD_ENDS])

    def test_anything(self):
        self.tells(is_kind, False, *oddities())
        self.tells(is_stack_kind, False, *oddities())
        self.tells(is_row_kind, False, *oddities())

    def test_a_fault_deep_within(self):
        good, bad, worse = NUMBER, ("open", "a0"), True
        for at in range(40):
            good, bad, worse = [("row", ("A", (("list", kind),)), B) for kind in (good, bad, worse)]
        self.tells(is_kind, True, good)
        self.tells(is_kind, False, bad, worse)

    def test_made_ones(self):
        for take, leave in row_kinds_in(21, 200):
            self.tells(is_row_kind, True, (take, leave))
            self.tells(is_stack_kind, True, take, leave)
            self.tells(is_kind, True, ("row", take, leave), *take[1], *leave[1])


class OpenNames(unittest.TestCase):

    def test_in_the_order_in_which_each_comes_first(self):
        for text, names in {
            "--": (),
            "number -- { number }": (),
            "A -- A": ("A",),
            "A -- B": ("A", "B"),
            "B -- A": ("B", "A"),
            "B a [ A -- B b ] -- C a": ("B", "a", "A", "b", "C"),
            "A [ C z -- B y ] { { x } } -- D z": ("A", "C", "z", "B", "y", "x", "D"),
            "a b a -- b c": ("a", "b", "c"),
            "-- Z [ a1 -- A1 ] a": ("Z", "a1", "A1", "a"),
            "[ [ c -- D ] -- b ] d -- D a": ("c", "D", "b", "d", "a"),
        }.items():
            take, leave = read_kind(text)
            self.assertEqual(opens_of(take, leave), names, text)

    def test_they_are_those_of_the_text(self):
        for take, leave in row_kinds_in(22, 200):
            marks = [mark for mark in show_kind(take, leave).split(" ") if mark[0].isalpha() and mark != "number"]
            self.assertEqual(opens_of(take, leave), tuple(dict.fromkeys(marks)))


class ToldForm(unittest.TestCase):

    def test_names_in_the_order_of_the_letters(self):
        for text, told in {
            "--": "--",
            "A -- A": "A -- A",
            "Q -- Q": "A -- A",
            "B -- A": "A -- B",
            "B a -- A b": "A a -- B b",
            "Z9 y [ C -- Z9 y ] x -- C x y": "A a [ B -- A a ] b -- B b a",
            "-- z { y } number": "-- a { b } number",
            "c -- b a c": "a -- b c a",
        }.items():
            self.assertEqual(show_kind(*told_form(*read_kind(text))), told)

    def test_more_than_twenty_six(self):
        many = 60
        letters = "abcdefghijklmnopqrstuvwxyz"
        told = list(letters) + [letter + "1" for letter in letters] + [letter + "2" for letter in letters]
        names = ["x" + str(at + 1) for at in range(many)]
        take = ("Q", tuple([("open", name) for name in names]))
        self.assertEqual(told_form(take, ("Q", ())), (("A", tuple([("open", name) for name in told[:many]])), ("A", ())))
        rests = ["Y" + str(at + 1) for at in range(many)]
        leave = ("", tuple([("row", (rest, ()), (rest, ())) for rest in rests]))
        great = [name.upper() for name in told[:many]]
        self.assertEqual(told_form(("", ()), leave),
                         (("", ()), ("", tuple([("row", (rest, ()), (rest, ())) for rest in great]))))

    def test_the_names_are_exchanged_all_at_once(self):
        self.assertEqual(show_kind(*told_form(*read_kind("B b [ A a -- B ] -- A a b"))), "A a [ B b -- A ] -- B b a")

    def test_told_again_it_stays(self):
        for take, leave in row_kinds_in(23, 200):
            told = told_form(take, leave)
            self.assertIs(is_row_kind(told), True)
            self.assertEqual(told_form(*told), told)
            names = opens_of(*told)
            self.assertEqual([name for name in names if name.isupper()],
                             list("ABCDEFGHIJKLMNOPQRSTUVWXYZ")[:sum(name.isupper() for name in names)])
            self.assertEqual([name for name in names if name.islower()],
                             list("abcdefghijklmnopqrstuvwxyz")[:sum(name.islower() for name in names)])
            self.assertEqual(len(names), len(opens_of(take, leave)))
