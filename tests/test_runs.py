"""Running rows, and the states that they come to."""

import random
import unittest

from takeleave.errors import NoStep
from takeleave.runs import run, states
from takeleave.steps import step
from takeleave.texts import read_row, read_stack, show_row, show_stack
from tests.samples import rows_in, thing_by

BOOK = (("f", None, read_row("1 plus")), ("forever", None, ("forever",)), ("grow", None, ("grow", "f")),
        ("fact", None, read_row("a-aa [ a-aa 1 minus fact times ] [ a- 1 ] if")))

# A row, a stack, how many steps it needs, and the stack behind them.
ENDING = (
    ("", "", 0, ""),
    ("", "1 2", 0, "1 2"),
    ("1 2 plus", "", 3, "3"),
    ("a-aa times", "7", 2, "49"),
    ("f f", "7", 6, "9"),
    ("[ f ] do", "1", 5, "2"),
    ("5 [ f ] dip", "1", 7, "2 5"),
    ("[ 2 ] [ 3 ] if", "0", 4, "3"),
    ("[ 2 ] [ 3 ] if", "8", 4, "2"),
    ("[ f ] repeat", "10 0", 2, "10"),
    ("[ f ] repeat", "10 2", 2 + 2 * 6, "12"),
    ("[ a-aa ] [ 1 minus ] while", "0", 3 + 4, "0"),
    ("[ a-aa ] [ 1 minus ] while", "1", 3 + 4 + 5 + 4, "0"),
    ("[ a-aa ] [ 1 minus ] while", "3", 3 + 3 * 9 + 4, "0"),
    ("{ } [ plus ] each", "10", 3, "10"),
    ("{ 1 2 3 } [ plus ] each", "10", 3 + 3 * 4, "16"),
    ("[ ab-ba ] [ 9 ] part", "{ }", 4, "9"),
    ("[ ab-ba ] [ 9 ] part", "{ 1 2 }", 4, "{ 2 } 1"),
    ("[ 1 ] [ plus ] join wrap { } ab-ba put", "", 7, "{ [ [ 1 plus ] ] }"),
    ("fact", "5", 1 + 5 * 9 + 6, "120"),
)

# A row, a stack, how many steps are done ahead of the fault, and the state then.
FAULTING = (
    ("plus", "", 0, "", "plus"),
    ("plus", "1", 0, "1", "plus"),
    ("1 plus plus", "1", 2, "2", "plus"),
    ("[ do ] a-aa do", "", 4, "", "do"),
    ("g 1", "1", 0, "1", "g 1"),
    ("1 f g a-", "", 4, "2", "g a-"),
    ("1 [ plus a- ] do", "", 3, "1", "plus a-"),
    ("a-", "", 0, "", "a-"),
)


class Runs(unittest.TestCase):

    def test_those_that_end(self):
        for row, stack, steps, left in ENDING:
            told = ("ended", steps, (read_stack(left), ()))
            for most in (steps, steps + 1, steps + 1000):
                self.assertEqual(run(read_row(row), read_stack(stack), most, BOOK), told, (row, stack))

    def test_one_step_less_than_the_row_needs(self):
        for row, stack, steps, left in ENDING:
            if steps:
                ending, done, (things, todo) = run(read_row(row), read_stack(stack), steps - 1, BOOK)
                self.assertEqual((ending, done, len(todo)), ("on", steps - 1, 1), (row, stack))
                self.assertEqual(step((things, todo), BOOK), (read_stack(left), ()), (row, stack))

    def test_no_steps_at_all(self):
        self.assertEqual(run((), (), 0), ("ended", 0, ((), ())))
        self.assertEqual(run((), read_stack("1"), 0), ("ended", 0, (read_stack("1"), ())))
        for row in ("plus", "1", "g", "forever", "[ ]"):
            self.assertEqual(run(read_row(row), (), 0, BOOK), ("on", 0, ((), read_row(row))))

    def test_faults(self):
        for row, stack, steps, left, todo in FAULTING:
            told = ("fault", steps, (read_stack(left), read_row(todo)))
            for most in (steps + 1, steps + 2, steps + 1000):
                self.assertEqual(run(read_row(row), read_stack(stack), most, BOOK), told, (row, stack))

    def test_after_so_many_the_next_one_is_not_tried(self):
        for row, stack, steps, left, todo in FAULTING:
            told = ("on", steps, (read_stack(left), read_row(todo)))
            self.assertEqual(run(read_row(row), read_stack(stack), steps, BOOK), told, (row, stack))

    def test_those_that_never_end(self):
        self.assertEqual(run(("forever",), (), 5000, BOOK), ("on", 5000, ((), ("forever",))))
        self.assertEqual(run(("grow",), (), 300, BOOK), ("on", 300, ((), ("grow",) + ("f",) * 300)))
        ending, steps, state = run(read_row("[ a-aa do ] a-aa do"), (), 3001)
        self.assertEqual((ending, steps), ("on", 3001))

    def test_some_thousands_of_steps(self):
        row = read_row("[ a-aa ] [ 1 minus ] while")
        self.assertEqual(run(row, read_stack("5000"), 10 ** 6), ("ended", 3 + 5000 * 9 + 4, (read_stack("0"), ())))
        told = run(read_row("20000 [ 7 ] repeat"), (), 10 ** 6)
        self.assertEqual(told, ("ended", 3 + 20000 * 4, (read_stack("7") * 20000, ())))
        ending, steps, state = run(("grow",), (), 20000, BOOK)
        self.assertEqual((ending, steps, len(state[1])), ("on", 20000, 20001))

    def test_a_book_left_out(self):
        for row in ("1 2 plus", "1 f", "g", ""):
            told = run(read_row(row), (), 10)
            self.assertEqual(run(read_row(row), (), 10, None), told)
            self.assertEqual(run(read_row(row), (), 10, ()), told)
            self.assertEqual(states(read_row(row), (), 10, None), states(read_row(row), (), 10))
            self.assertEqual(states(read_row(row), (), 10, ()), states(read_row(row), (), 10))
        self.assertEqual(run(read_row("1 f"), (), 10), ("fault", 1, (read_stack("1"), ("f",))))

    def test_things_put_beneath_stay_as_they_lay(self):
        for row, stack, steps, left in ENDING:
            for beneath in ("1", "[ plus ] { 2 } 3", "{ } { } { } 0 0 0"):
                below = read_stack(beneath)
                told = run(read_row(row), below + read_stack(stack), 1000, BOOK)
                self.assertEqual(told, ("ended", steps, (below + read_stack(left), ())), (row, beneath))
                passed = states(read_row(row), read_stack(stack), 1000, BOOK)
                self.assertEqual(states(read_row(row), below + read_stack(stack), 1000, BOOK),
                                 tuple([(below + things, todo) for things, todo in passed]))

    def test_what_is_told_may_be_handed_in_again(self):
        row, stack = read_row("[ a-aa ] [ 1 minus ] while"), read_stack("40")
        whole = run(row, stack, 1000)
        for most in (0, 1, 7, 100):
            ending, steps, (things, todo) = run(row, stack, most)
            further = run(todo, things, 1000)
            self.assertEqual((further[0], steps + further[1], further[2]), whole)


class States(unittest.TestCase):

    def test_from_the_first_one_on(self):
        told = (("", "1 2 plus"), ("1", "2 plus"), ("1 2", "plus"), ("3", ""))
        told = tuple([(read_stack(things), read_row(todo)) for things, todo in told])
        row = read_row("1 2 plus")
        self.assertEqual(states(row, (), 100), told)
        for most in range(6):
            self.assertEqual(states(row, (), most), told[:most + 1])

    def test_no_words_and_no_steps(self):
        self.assertEqual(states((), (), 0), (((), ()),))
        self.assertEqual(states((), read_stack("1"), 9), ((read_stack("1"), ()),))
        self.assertEqual(states(("plus",), (), 0), (((), ("plus",)),))

    def test_a_fault_is_the_last_one(self):
        for row, stack, steps, left, todo in FAULTING:
            passed = states(read_row(row), read_stack(stack), 1000, BOOK)
            self.assertEqual(len(passed), steps + 1)
            self.assertEqual(passed[-1], (read_stack(left), read_row(todo)))

    def test_each_is_a_step_behind_the_one_ahead(self):
        for row, stack, steps, left in ENDING:
            passed = states(read_row(row), read_stack(stack), 1000, BOOK)
            self.assertEqual(len(passed), steps + 1)
            self.assertEqual(passed[0], (read_stack(stack), read_row(row)))
            for state, behind in zip(passed, passed[1:]):
                self.assertEqual(step(state, BOOK), behind)


class ByChance(unittest.TestCase):

    def test_a_run_is_step_after_step(self):
        chance = random.Random(5)
        for row in rows_in(6, 400):
            stack = tuple([thing_by(chance, 3) for at in range(6)])
            state, steps, ending = (stack, row), 0, "on"
            while steps < 60 and ending == "on":
                try:
                    state = step(state, BOOK)
                    steps += 1
                except NoStep:
                    ending = "fault" if state[1] else "ended"
            if not state[1]:
                ending = "ended"
            self.assertEqual(run(row, stack, 60, BOOK), (ending, steps, state), (show_row(row), show_stack(stack)))
            self.assertEqual(states(row, stack, 60, BOOK)[-1], state)
