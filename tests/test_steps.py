"""What a step does, word by word."""

import unittest

from takeleave.errors import NoStep
from takeleave.steps import step, takes_of
from takeleave.texts import read_row, read_stack, show_row, show_stack
from takeleave.things import is_row, is_stack

BOOK = (("f", None, read_row("1 plus")), ("none", None, ()), ("plusone", None, read_row("f [ f ] do")))

# A stack and a word, and what a step makes of them: the stack behind it and the words put ahead.
STEPS = (
    ("", "7", "7", ""),
    ("1", "[ plus f ]", "1 [ plus f ]", ""),
    ("", "{ 1 [ ] }", "{ 1 [ ] }", ""),
    ("", "-", "", ""),
    ("1", "a-", "", ""),
    ("1", "a-aa", "1 1", ""),
    ("1 2", "ab-ba", "2 1", ""),
    ("1 2 3", "abc-bca", "2 3 1", ""),
    ("1 2", "ab-aba", "1 2 1", ""),
    ("1 2", "ab-ab", "1 2", ""),
    ("1 2", "ab-b", "2", ""),
    ("1 2", "ab-a", "1", ""),
    ("[ f ] { 2 } 3", "abc-cabb", "3 [ f ] { 2 } { 2 }", ""),
    ("1 2 3 4 5 6 7 8", "abcdefgh-hgfedcbahgfe", "8 7 6 5 4 3 2 1 8 7 6 5", ""),
    ("1 2 3 4 5 6 7 8", "abcdefgh-", "", ""),
    ("2", "f", "2", "1 plus"),
    ("", "none", "", ""),
    ("", "plusone", "", "f [ f ] do"),
    ("2 3", "plus", "5", ""),
    ("0 0", "plus", "0", ""),
    ("999999999999 1", "plus", "0", ""),
    ("999999999999 999999999999", "plus", "999999999998", ""),
    ("500000000000 499999999999", "plus", "999999999999", ""),
    ("5 3", "minus", "2", ""),
    ("3 3", "minus", "0", ""),
    ("3 5", "minus", "999999999998", ""),
    ("0 1", "minus", "999999999999", ""),
    ("0 999999999999", "minus", "1", ""),
    ("2 3", "times", "6", ""),
    ("0 3", "times", "0", ""),
    ("1000000 1000000", "times", "0", ""),
    ("1000001 1000000", "times", "1000000", ""),
    ("999999999999 999999999999", "times", "1", ""),
    ("2 3", "less", "1", ""),
    ("3 2", "less", "0", ""),
    ("2 2", "less", "0", ""),
    ("0 999999999999", "less", "1", ""),
    ("2 2", "same", "1", ""),
    ("2 3", "same", "0", ""),
    ("3 2", "same", "0", ""),
    ("0 0", "same", "1", ""),
    ("[ ]", "do", "", ""),
    ("[ plus [ f ] ]", "do", "", "plus [ f ]"),
    ("1 [ plus ]", "dip", "", "plus 1"),
    ("[ f ] [ plus a- ]", "dip", "", "plus a- [ f ]"),
    ("{ 1 } [ ]", "dip", "", "{ 1 }"),
    ("0 [ plus ] [ minus ]", "if", "", "minus"),
    ("1 [ plus ] [ minus ]", "if", "", "plus"),
    ("999999999999 [ plus f ] [ ]", "if", "", "plus f"),
    ("0 [ plus f ] [ ]", "if", "", ""),
    ("[ a-aa ] [ 1 minus ]", "while", "", "a-aa [ 1 minus [ a-aa ] [ 1 minus ] while ] [ ] if"),
    ("[ ] [ ]", "while", "", "[ [ ] [ ] while ] [ ] if"),
    ("[ f ] [ ]", "while", "", "f [ [ f ] [ ] while ] [ ] if"),
    ("0 [ f ]", "repeat", "", ""),
    ("1 [ f ]", "repeat", "", "f 0 [ f ] repeat"),
    ("5 [ f plus ]", "repeat", "", "f plus 4 [ f plus ] repeat"),
    ("999999999999 [ ]", "repeat", "", "999999999998 [ ] repeat"),
    ("[ f ] [ plus ]", "join", "[ f plus ]", ""),
    ("[ ] [ plus ]", "join", "[ plus ]", ""),
    ("[ f ] [ ]", "join", "[ f ]", ""),
    ("[ ] [ ]", "join", "[ ]", ""),
    ("1", "wrap", "[ 1 ]", ""),
    ("[ f ]", "wrap", "[ [ f ] ]", ""),
    ("{ }", "wrap", "[ { } ]", ""),
    ("{ } 1", "put", "{ 1 }", ""),
    ("{ 1 2 } 3", "put", "{ 1 2 3 }", ""),
    ("{ 1 } { 2 }", "put", "{ 1 { 2 } }", ""),
    ("{ 1 } [ f ]", "put", "{ 1 [ f ] }", ""),
    ("{ } [ plus ] [ minus f ]", "part", "", "minus f"),
    ("{ 7 } [ plus ] [ minus ]", "part", "7 { }", "plus"),
    ("{ 7 8 [ ] } [ plus f ] [ minus ]", "part", "7 { 8 [ ] }", "plus f"),
    ("{ } [ f ]", "each", "", ""),
    ("{ 7 } [ f ]", "each", "7", "f { } [ f ] each"),
    ("{ [ ] 8 9 } [ f plus ]", "each", "[ ]", "f plus { 8 9 } [ f plus ] each"),
)

# Stacks of which a step of the word is a fault: a thing too few, or one of another sort.
FAULTS = {
    "plus": ("1", "[ ] 1", "1 [ ]", "{ } 1", "1 { }"),
    "minus": ("1", "[ ] 1", "1 [ ]", "{ } 1", "1 { }"),
    "times": ("1", "[ ] 1", "1 [ ]", "{ } 1", "1 { }"),
    "less": ("1", "[ ] 1", "1 [ ]", "{ } 1", "1 { }", "[ ] [ ]"),
    "same": ("1", "[ ] 1", "1 [ ]", "{ } 1", "1 { }", "[ ] [ ]", "{ } { }"),
    "do": ("1", "{ }", "[ ] 1"),
    "dip": ("[ ]", "[ ] 1", "1 { }", "1 1"),
    "if": ("[ ] [ ]", "[ ] [ ] [ ]", "{ } [ ] [ ]", "1 1 [ ]", "1 { } [ ]", "1 [ ] 1", "1 [ ] { }"),
    "while": ("[ ]", "1 [ ]", "[ ] 1", "{ } [ ]", "[ ] { }"),
    "repeat": ("[ ]", "[ ] [ ]", "{ } [ ]", "1 1", "1 { }", "0 0", "0 { }", "[ ] 1"),
    "join": ("[ ]", "1 [ ]", "[ ] 1", "{ } [ ]", "[ ] { }", "{ } { }"),
    "wrap": (),
    "put": ("{ }", "1 1", "[ ] 1", "1 { }"),
    "part": ("[ ] [ ]", "1 [ ] [ ]", "[ ] [ ] [ ]", "{ } 1 [ ]", "{ } { } [ ]", "{ } [ ] 1", "{ 1 } [ ] { }"),
    "each": ("[ ]", "1 [ ]", "[ ] [ ]", "{ } 1", "{ 1 } { }", "{ } { }", "[ ] { }"),
    "a-": (),
    "a-aa": (),
    "ab-ba": ("1",),
    "ab-": ("1",),
    "abc-a": ("1", "1 2"),
    "abcdefgh-": ("1 2 3 4 5 6 7",),
}

TAKES = {"plus": 2, "minus": 2, "times": 2, "less": 2, "same": 2, "do": 1, "dip": 2, "if": 3, "while": 2, "repeat": 2,
         "join": 2, "wrap": 1, "put": 2, "part": 3, "each": 2, "-": 0, "a-": 1, "a-aa": 1, "ab-ba": 2, "ab-": 2,
         "abcdefgh-a": 8}

BENEATH = ("", "9", "[ f ] { 1 } 0", "1 1 1 1")
BEHIND = ("", "plus", "[ a- ] do f", "a-b")


def joined(*texts):
    return " ".join([text for text in texts if text])


class Steps(unittest.TestCase):

    def test_each_word(self):
        for stack, word, left, ahead in STEPS:
            state = (read_stack(stack), read_row(word))
            self.assertEqual(step(state, BOOK), (read_stack(left), read_row(ahead)), (stack, word))

    def test_all_basic_words_are_tried(self):
        tried = {word for stack, word, left, ahead in STEPS}
        self.assertEqual({word for word in TAKES if "-" not in word} - tried, set())

    def test_what_comes_is_a_state(self):
        for stack, word, left, ahead in STEPS:
            things, todo = step((read_stack(stack), read_row(word)), BOOK)
            self.assertIs(is_stack(things), True)
            self.assertIs(is_row(todo), True)

    def test_things_beneath_and_words_behind_stay(self):
        for stack, word, left, ahead in STEPS:
            for beneath in BENEATH:
                for behind in BEHIND:
                    rest = ("a-b",) if behind == "a-b" else read_row(behind)
                    state = (read_stack(joined(beneath, stack)), read_row(word) + rest)
                    told = (read_stack(joined(beneath, left)), read_row(ahead) + rest)
                    self.assertEqual(step(state, BOOK), told, (beneath, stack, word, behind))

    def test_one_thing_too_few(self):
        for word, takes in TAKES.items():
            for many in range(takes):
                for thing in ("1", "[ ]", "{ }"):
                    with self.assertRaises(NoStep, msg=word):
                        step((read_stack(joined(*[thing] * many)), (word,)))
        for stack, word, left, ahead in STEPS:
            if word in TAKES:
                for many in range(TAKES[word]):
                    things = read_stack(stack)
                    with self.assertRaises(NoStep, msg=word):
                        step((things[len(things) - many:], (word,)), BOOK)

    def test_faults(self):
        for word, stacks in FAULTS.items():
            for stack in ("",) + stacks:
                with self.assertRaises(NoStep, msg=(stack, word)):
                    step((read_stack(stack), (word, "plus")), BOOK)

    def test_things_of_another_sort_with_more_beneath(self):
        for word, stacks in FAULTS.items():
            for stack in stacks:
                if len(read_stack(stack)) >= TAKES.get(word, 99):
                    with self.assertRaises(NoStep, msg=(stack, word)):
                        step((read_stack(joined("1 [ ] { }", stack)), (word,)), BOOK)

    def test_a_name_that_the_book_has_not(self):
        for book in (None, (), BOOK):
            with self.assertRaises(NoStep):
                step((read_stack("1 2"), ("g",)), book)
        with self.assertRaises(NoStep):
            step((read_stack("1 2"), ("f",)))
        for text in ("a-b", "", "Plus", "abcdefghi"):
            with self.assertRaises(NoStep):
                step((read_stack("1 2"), (text,)), BOOK)

    def test_a_state_without_todo(self):
        for stack in ("", "1", "[ f ] 2"):
            for book in (None, (), BOOK):
                with self.assertRaises(NoStep):
                    step((read_stack(stack), ()), book)

    def test_a_book_left_out_and_one_without_words_are_alike(self):
        state = (read_stack("1 2"), read_row("plus f"))
        self.assertEqual(step(state), step(state, None))
        self.assertEqual(step(state), step(state, ()))

    def test_a_told_word_with_a_kind_and_one_that_comes_to_itself(self):
        kind = (("A", (("number",),)), ("A", (("number",),)))
        book = (("g", kind, ("g", "g")), ("h", None, ("g",)))
        self.assertEqual(step(((), ("g", "plus")), book), ((), ("g", "g", "plus")))
        self.assertEqual(step(((), ("h", "plus")), book), ((), ("g", "plus")))

    def test_a_thing_a_hundred_brackets_deep(self):
        thing = ("row", ())
        for at in range(99):
            thing = ("row", (("push", thing),))
        self.assertEqual(show_stack(step(((thing,), ("a-aa",)))[0]), joined(*[show_stack((thing,))] * 2))
        self.assertEqual(show_row(step(((thing,), ("do",)))[1]), show_stack(thing[1][0][1:]))


class Takes(unittest.TestCase):

    def test_how_many_each_takes(self):
        for word, many in TAKES.items():
            self.assertEqual(takes_of(word), many, word)
        for n in range(9):
            self.assertEqual(takes_of("abcdefgh"[:n] + "-"), n)
