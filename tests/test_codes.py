"""Codes for a machine with registers, and how they are run."""

import unittest

from takeleave.codes import is_code, run_code
from takeleave.errors import NoStep
from takeleave.texts import read_row, read_stack, show_stack
from tests.samples import Touchy, oddities

ONE = ("number", 1)
# One of each op that has a word and registers, with what it tells of things, and things with which it has no step.
WORDS = (
    ("plus", "2 3", "5", ("[ ] 3", "2 [ ]", "{ } 3", "2 { }")),
    ("plus", "999999999999 2", "1", ()),
    ("minus", "2 3", "999999999999", ("[ ] 3", "2 [ ]")),
    ("times", "2 3", "6", ("[ ] 3", "2 { }")),
    ("less", "2 3", "1", ("[ ] 3", "2 { }", "[ ] [ ]")),
    ("less", "3 2", "0", ()),
    ("same", "3 3", "1", ("[ ] 3", "2 { }", "[ ] [ ]", "{ } { }")),
    ("same", "3 2", "0", ()),
    ("put", "{ 1 } 2", "{ 1 2 }", ("1 2", "[ ] 2", "1 { }")),
    ("put", "{ } [ f ]", "{ [ f ] }", ()),
    ("join", "[ f ] [ plus ]", "[ f plus ]", ("1 [ ]", "[ ] 1", "{ } [ ]", "[ ] { }")),
    ("wrap", "1", "[ 1 ]", ()),
    ("wrap", "{ [ f ] }", "[ { [ f ] } ]", ()),
)
NOTHING = (0, (), ())
SAME = (1, (), (0,))
DOUBLE = (1, (("plus", 0, 0),), (1,))
NEXT = (1, (("push", ONE), ("plus", 0, 1)), (2,))
# Codes, with things that they are run with and what they tell.
CODES = (
    (NOTHING, "", ""),
    (SAME, "[ f ]", "[ f ]"),
    ((1, (), ()), "7", ""),
    ((1, (), (0, 0, 0)), "7", "7 7 7"),
    ((3, (), (2, 0)), "5 [ 6 ] 7", "7 5"),
    (DOUBLE, "21", "42"),
    (NEXT, "21", "22"),
    ((0, (("push", ("row", ("f",))),), (0,)), "", "[ f ]"),
    ((0, (("push", ("list", (ONE, ONE))), ("wrap", 0), ("join", 1, 1)), (2, 0)), "", "[ { 1 1 } { 1 1 } ] { 1 1 }"),
    ((2, (("if", 1, (0,), DOUBLE, NEXT),), (2,)), "5 7", "10"),
    ((2, (("if", 1, (0,), DOUBLE, NEXT),), (2,)), "5 0", "6"),
    ((2, (("if", 0, (1, 1), (2, (), (1, 0, 1)), (2, (), (0, 0, 0))),), (4, 3, 2, 1)), "1 [ ]", "[ ] [ ] [ ] [ ]"),
    ((1, (("if", 0, (), NOTHING, NOTHING),), ()), "0", ""),
    ((1, (("if", 0, (), NOTHING, NOTHING), ("wrap", 0)), (1,)), "0", "[ 0 ]"),
    ((3, (("if", 2, (0, 1), (2, (("if", 0, (1,), DOUBLE, NEXT),), (2,)), (2, (("minus", 0, 1),), (2,))),), (3,)),
     "1 20 1", "40"),
    ((3, (("if", 2, (0, 1), (2, (("if", 0, (1,), DOUBLE, NEXT),), (2,)), (2, (("minus", 0, 1),), (2,))),), (3,)),
     "0 20 1", "21"),
    ((3, (("if", 2, (0, 1), (2, (("if", 0, (1,), DOUBLE, NEXT),), (2,)), (2, (("minus", 0, 1),), (2,))),), (3,)),
     "30 20 0", "10"),
)
# What is no code, though near to one.
NO_CODES = (
    (), (0,), (0, ()), (0, (), (), ()), [0, (), ()], (0, [], ()), (0, (), []), (-1, (), ()), (True, (), (0,)),
    (False, (), ()), ("0", (), ()), (None, (), ()), (0, None, ()), (0, (), None), (0, (), (0,)), (1, (), (1,)),
    (1, (), (-1,)), (1, (), (False,)), (1, (), ("0",)), (1, (), (None,)), (1, (), ((0,),)), (1, (), 0), ((), (), 0),
    (1, (("wrap", 1),), (1,)), (1, (("wrap", -1),), (1,)), (1, (("wrap", False),), (1,)), (1, (("wrap", "0"),), (1,)),
    (1, (("wrap",),), (1,)), (1, (("wrap", 0, 0),), (1,)), (1, (["wrap", 0],), (1,)), (1, ("wrap", 0), (1,)),
    (1, (("wrap", 0),), (2,)), (1, (("wrap", 0), ("wrap", 2)), (1,)), (2, (("plus", 0),), (0,)),
    (2, (("plus", 0, 1, 1),), (0,)), (2, (("plus", 0, 2),), (0,)), (2, (("plus", 2, 0),), (0,)),
    (2, (("plus", 0, True),), (0,)), (2, (("plus", (0, 1)),), (0,)), (2, (("Plus", 0, 1),), (0,)),
    (2, (("do", 0),), (0,)), (2, (("dip", 0, 1),), (0,)), (2, (("repeat", 0, 1),), (0,)), (2, (("each", 0, 1),), (0,)),
    (2, (("while", 0, 1),), (0,)), (2, (("part", 0, 1, 1),), (0,)), (2, (("ab-ba", 0, 1),), (0,)), (2, (("f",),), (0,)),
    (2, ((b"plus", 0, 1),), (0,)), (2, ((),), (0,)), (2, ("plus",), (0,)), (2, (None,), (0,)),
    (0, (("push",),), ()), (0, (("push", ONE, ONE),), ()), (0, (("push", 1),), ()), (0, (("push", ("number", -1)),), ()),
    (0, (("push", ("number", True)),), ()), (0, (("push", "plus"),), ()), (0, (("push", ("row", ("a-b",))),), ()),
    (0, (("push", ("list", [])),), ()), (0, (("push", ()),), ()), (0, (("push", ("push", ONE)),), ()),
    (2, (("if", 1, (0,), DOUBLE),), ()), (2, (("if", 1, (0,), DOUBLE, NEXT, NEXT),), ()),
    (2, (("if", 2, (0,), DOUBLE, NEXT),), ()), (2, (("if", -1, (0,), DOUBLE, NEXT),), ()),
    (2, (("if", True, (0,), DOUBLE, NEXT),), ()), (2, (("if", "1", (0,), DOUBLE, NEXT),), ()),
    (2, (("if", (1,), (0,), DOUBLE, NEXT),), ()), (2, (("if", 1, [0], DOUBLE, NEXT),), ()),
    (2, (("if", 1, 0, DOUBLE, NEXT),), ()), (2, (("if", 1, (2,), DOUBLE, NEXT),), ()),
    (2, (("if", 1, (-1,), DOUBLE, NEXT),), ()), (2, (("if", 1, (False,), DOUBLE, NEXT),), ()),
    (2, (("if", 1, ("0",), DOUBLE, NEXT),), ()), (2, (("if", 1, (), DOUBLE, NEXT),), ()),
    (2, (("if", 1, (0, 0), DOUBLE, NEXT),), ()), (2, (("if", 1, (0,), DOUBLE, NOTHING),), ()),
    (2, (("if", 1, (0,), NOTHING, NEXT),), ()), (2, (("if", 1, (0,), DOUBLE, (1, (), (0, 0))),), ()),
    (2, (("if", 1, (0,), (1, (), ()), NEXT),), ()), (2, (("if", 1, (0,), DOUBLE, None),), ()),
    (2, (("if", 1, (0,), list(DOUBLE), NEXT),), ()), (2, (("if", 1, (0,), (True, (), (0,)), NEXT),), ()),
    (2, (("if", 1, (0,), DOUBLE, (1, (), (1,))),), ()), (2, (("if", 1, (0,), (1, (("wrap", 1),), (0,)), NEXT),), ()),
    (2, (("if", 1, (0,), DOUBLE, (1, (("if", 0, (0,), DOUBLE, (1, (), (2,))),), (1,))),), ()),
    (2, (("if", 1, (0,), DOUBLE, NEXT),), (3,)), (2, (("if", 1, (0,), (1, (), ()), (1, (), ())),), (2,)),
    # Sides that take another number of things, and leave as many as the other one.
    (2, (("if", 1, (0,), (0, (("push", ONE),), (0,)), NEXT),), ()), (2, (("if", 1, (0,), NEXT, (2, (), (1,))),), ()),
    (2, (("if", 1, (), (0, (("push", ONE),), (0,)), NEXT),), ()), (2, (("if", 1, (0, 0), NEXT, NEXT),), ()),
    (2, (("if", 1, (0,), DOUBLE, NEXT), ("wrap", 3)), (3,)),
)


def choices_within(deep):
    """A code with so many choices one in the other, each of the same number, with one at the inmost."""
    code = NEXT
    for at in range(deep):
        code = (1, (("if", 0, (0,), code, SAME),), (1,))
    return code


class Forms(unittest.TestCase):

    def test_codes(self):
        for code, things, told in CODES:
            self.assertIs(is_code(code), True, code)
        for word, things, told, faults in WORDS:
            many = len(read_stack(things))
            self.assertIs(is_code((many, ((word, *range(many)),), (many,))), True, word)
        self.assertIs(is_code((10 ** 40, (), (10 ** 40 - 1,))), True)
        self.assertIs(is_code((10 ** 40, (("wrap", 5),), (10 ** 40,))), True)

    def test_what_is_none(self):
        for thing in NO_CODES:
            self.assertIs(is_code(thing), False, thing)

    def test_anything(self):
        for odd in oddities():
            for thing in (odd, (odd, (), ()), (0, odd, ()), (0, (odd,), ()), (0, (), (odd,)), (1, (("wrap", odd),), ()),
                          (1, ((odd, 0),), ()), (1, (("plus", 0, odd),), (0,)), (1, (("if", odd, (), NOTHING, NOTHING),), ()),
                          (1, (("if", 0, odd, NOTHING, NOTHING),), ()), (1, (("if", 0, (), odd, NOTHING),), ()),
                          (1, (("if", 0, (), NOTHING, odd),), ()), (1, (("if", 0, (odd,), SAME, SAME),), ())):
                self.assertIn(is_code(thing), (True, False))
            self.assertIs(is_code(odd), False)
            self.assertIs(is_code((0, (("push", odd),), ())), False)
            self.assertIs(is_code((1, (("if", 0, (), odd, odd),), ())), False)
        self.assertIs(is_code((0, (Touchy(),), ())), False)

    def test_one_thing_put_otherwise(self):
        for code, things, told in CODES:
            takes, ops, outs = code
            for wrong in ((takes, list(ops), outs), (takes, ops, list(outs)), list(code), (takes, ops), code + ((),),
                          (-takes - 1, ops, outs), (str(takes), ops, outs), (takes, ops + (None,), outs),
                          (takes, ops + (("wrap", 99),), outs), (takes, ops, outs + (99,)), (takes, ops, outs + (-1,)),
                          (takes, ops, outs + (True,)), (takes, (("wrap", takes),) + ops, outs)):
                self.assertIs(is_code(wrong), False, wrong)
            for at, op in enumerate(ops):
                for wrong in (list(op), op[:-1], op + (0,), ("no",) + op[1:], (None,) + op[1:], op[1:], ()):
                    self.assertIs(is_code((takes, ops[:at] + (wrong,) + ops[at + 1:], outs)), False, (code, wrong))

    def test_choices_within_choices(self):
        for deep in (0, 1, 5, 400):
            self.assertIs(is_code(choices_within(deep)), True)
        self.assertIs(is_code((1, (("if", 0, (0,), choices_within(200), (1, (), (1,))),), (1,))), False)
        inmost = (1, (("wrap", 7),), (1,))
        for at in range(300):
            inmost = (1, (("if", 0, (0,), SAME, inmost),), (1,))
        self.assertIs(is_code(inmost), False)


class Runs(unittest.TestCase):

    def refused(self, code, things):
        with self.assertRaises(NoStep, msg=(code, things)):
            run_code(code, read_stack(things))

    def test_each_op(self):
        for word, things, told, faults in WORDS:
            many = len(read_stack(things))
            code = (many, ((word, *range(many)),), (many,))
            self.assertEqual(show_stack(run_code(code, read_stack(things))), told, (word, things))
            for fault in faults:
                self.refused(code, fault)

    def test_registers_by_their_numbers(self):
        self.assertEqual(show_stack(run_code((2, (("minus", 1, 0),), (2,)), read_stack("3 5"))), "2")
        self.assertEqual(show_stack(run_code((2, (("minus", 1, 1), ("minus", 0, 2)), (3, 2)), read_stack("3 5"))), "3 0")
        self.assertEqual(show_stack(run_code((2, (("put", 1, 0),), (2, 1)), read_stack("3 { }"))), "{ 3 } { }")

    def test_codes(self):
        for code, things, told in CODES:
            self.assertEqual(show_stack(run_code(code, read_stack(things))), told, (code, things))
            self.assertIsInstance(run_code(code, read_stack(things)), tuple)

    def test_one_thing_more_and_fewer(self):
        for code, things, told in CODES:
            stack = read_stack(things)
            for wrong in (stack + (ONE,), (ONE,) + stack, stack + stack + (ONE,)) + ((stack[1:], stack[:-1]) if stack else ()):
                with self.assertRaises(NoStep):
                    run_code(code, wrong)

    def test_choices(self):
        code = (2, (("if", 1, (0,), DOUBLE, NEXT),), (2,))
        for number, told in (("0", "6"), ("1", "10"), ("2", "10"), ("999999999999", "10")):
            self.assertEqual(show_stack(run_code(code, read_stack("5 " + number))), told)
        for things in ("5 [ ]", "5 { }", "[ ] 1", "[ ] 0", "{ } 7"):
            self.refused(code, things)
        # The side that is not chosen is not run.
        code = (2, (("if", 1, (0,), DOUBLE, SAME),), (2,))
        self.assertEqual(show_stack(run_code(code, read_stack("[ f ] 0"))), "[ f ]")
        self.refused(code, "[ f ] 1")

    def test_ops_behind_a_choice(self):
        code = (2, (("if", 1, (0,), (1, (), (0, 0)), (1, (("wrap", 0),), (0, 1))), ("wrap", 3), ("push", ONE)), (5, 4, 2))
        self.assertEqual(show_stack(run_code(code, read_stack("5 1"))), "1 [ 5 ] 5")
        self.assertEqual(show_stack(run_code(code, read_stack("5 0"))), "1 [ [ 5 ] ] 5")

    def test_choices_within_choices(self):
        for deep in (0, 1, 5, 400):
            for number, told in (("7", "8"), ("0", "0" if deep else "1")):
                self.assertEqual(show_stack(run_code(choices_within(deep), read_stack(number))), told)
            if deep:
                self.refused(choices_within(deep), "[ ]")

    def test_what_is_handed_in_stays(self):
        for code, things, told in CODES:
            stack = read_stack(things)
            before = repr((code, stack))
            is_code(code)
            run_code(code, stack)
            self.assertEqual(repr((code, stack)), before)

    def test_things_of_rows_are_not_looked_into(self):
        self.assertEqual(run_code((1, (("wrap", 0),), (1,)), read_stack("[ nought do ]")), read_stack("[ [ nought do ] ]"))
        self.assertEqual(run_code((0, (("push", ("row", read_row("nought do"))),), (0,)), ()), read_stack("[ nought do ]"))
