"""A desk that keeps a book, and its answers."""

import unittest

from takeleave.desk import Desk
from takeleave.errors import NoBook, NoKind, NoRow, NoWord, Twice
from tests.samples import Touchy, oddities

# What is said one behind the other, and the answers.
SAID = (
    ("show", ""),
    ("kind : ", "A -- A"),
    ("kind : plus", "A number number -- A number"),
    ("kind : [ 1 plus ] dip", "A number a -- A number a"),
    ("kind : { } wrap", "A -- A [ B -- B { a } ]"),
    ("tell f : 1 plus", "A number -- A number"),
    ("show", "f A number -- A number : 1 plus"),
    ("tell none : ", "A -- A"),
    ("show", "f A number -- A number : 1 plus\nnone A -- A : "),
    ("tell swap Z z number -- Z number z : ab-ba", "A a number -- A number a"),
    ("tell down A number -- A number : a-aa [ 1 minus down ] [ ] if", "A number -- A number"),
    ("tell two -- number number : 1 2", "-- number number"),
    ("tell drop number -- : a-", "number --"),
    ("tell nil -- : ", "--"),
    ("show", "f A number -- A number : 1 plus\nnone A -- A : \nswap A a number -- A number a : ab-ba\n"
             "down A number -- A number : a-aa [ 1 minus down ] [ ] if\ntwo -- number number : 1 2\n"
             "drop number -- : a-\nnil -- : "),
    ("kind : f swap", "A a number -- A number a"),
    ("kind : two drop", None),
    ("kind : two swap", "-- number number"),
    ("run 10 : 1 2 : plus", "ended 1 3"),
    ("run 10 : 1 : f", "ended 3 2"),
    ("run 2 : 1 : f", "on 2 1 1"),
    ("run 0 : 1 : f", "on 0 1"),
    ("run 0 : 1 : ", "ended 0 1"),
    ("run 0 :  : ", "ended 0 "),
    ("run 9999 :  : ", "ended 0 "),
    ("run 5 :  : 1 a-", "ended 2 "),
    ("run 5 :  : plus", "fault 0 "),
    ("run 5 : [ f ] { 1 } : plus", "fault 0 [ f ] { 1 }"),
    ("run 5 :  : 1 nought", "fault 1 1"),
    ("run 5 : [ nought ] : a-aa", "ended 1 [ nought ] [ nought ]"),
    ("run 9999 : 5 : down", "ended 40 0"),
    ("run 9999 :  : [ 1 ] [ ] while", "on 9999 "),
    ("short : ", ""),
    ("short : 1 2 plus", "3"),
    ("short : none f none", "f"),
    ("short : 1 a-", ""),
    ("short : [ 1 2 plus ] a-aa", "[ 1 2 plus ] a-aa"),
    ("alike :  : ", "alike"),
    ("alike : ab-ba plus : plus", "alike"),
    ("alike : none : ", "alike"),
    ("alike :  : none", "alike"),
    ("alike : 1 : 2", "parted "),
    ("alike : 1 : ", "parted "),
    ("alike :  : 1", "parted "),
    ("alike : a- : ", "parted 0"),
    ("alike : ab-ba : abc-cba", "parted 0 1 2"),
    ("alike : do : dip", "open"),
)

# Rows that are none.
NO_ROWS = (
    "", " ", "  ", "tell", "tell ", "tell f", "tell f ", "tell f :", "tell f : 1 ", "tell f :  1", "tell f : 1  2",
    "tell f: 1", "tell f :1", "tell  f : 1", " tell f : 1", "tell f  : 1", "tell : 1", "tell  : 1", "Tell f : 1",
    "tell f ; 1", "tell f : 1 : 2", "tell f : : 1", "tell f g : 1", "tell F : 1", "tell f1 : 1", "tell plus : 1",
    "tell while : 1", "tell a-a : 1", "tell 1 : 1", "tell [ ] : 1", "tell abcdefghi : 1", "tell f : [ 1", "tell f : 1 ]",
    "tell f : 01", "tell f : 1000000000000", "tell f : a-b", "tell f : F", "tell f : -1", "tell f A -- A", "tell f A : 1",
    "tell f A -- : : 1", "tell f A --  : 1", "tell f  A -- A : 1", "tell f A  -- A : 1", "tell f A -- A: 1",
    "tell f A -- A :", "tell f A -- A -- A : 1", "tell f a A -- A : 1", "tell f A B -- A : 1", "tell f A nmber -- A : 1",
    "tell f [ A -- A ] : 1", "tell f A [ A ] -- A : 1", "tell f A1 -- A01 : 1", "tell A -- A : 1", "tell -- : 1",
    "tell f -- : 1 2 ]", "tell f : { plus }", "tell f : 1\n", "tell f\n: 1", "tell f : 1\t2",
    "kind", "kind ", "kind :", "kind: 1", "kind : 1 ", "kind :  1", "kind  : 1", "kind : 1 : 2", "kind f : 1",
    "kind : ]", "kind : A", "Kind : 1", "kinds : 1", " kind : 1", "kind : kind :", "kind : :",
    "run", "run 5", "run 5 : 1", "run 5 : 1 :", "run : 1 : 1", "run  : 1 : 1", "run 5 : : 1", "run 5 : 1 : 1 : 1",
    "run 05 : 1 : 1", "run 00 : 1 : 1", "run 10000 : 1 : 1", "run -1 : 1 : 1", "run +1 : 1 : 1", "run x : 1 : 1",
    "run 5x : 1 : 1", "run 5 5 : 1 : 1", "run 5  : 1 : 1", "run  5 : 1 : 1", "run5 : 1 : 1", "run 5 : plus : 1",
    "run 5 : 1 : 1 ", "run 5 :  1 : 1", "run 5 : 1  : 1", "run 5 : 1 :  1", "run 5 : [ : ]", "run 5 : 1 : ]",
    "run 5 : f : 1", "run 5 : a-a : 1", "run \u0665 : 1 : 1", "run 1_0 : 1 : 1", "run 5\n : 1 : 1",
    "short", "short :", "short : 1 ", "short : 1 : 2", "short 1", "short  : 1", "shorter : 1", "short : [",
    "alike", "alike : 1", "alike : 1 :", "alike : : 1", "alike : 1 : 2 : 3", "alike : 1 : 2 ", "alike : 1 : ]",
    "alike : ] : 1", "alike 1 : 2", "alike :  1 : 2", "alike : 1  : 2", "alike: 1 : 2",
    "show ", " show", "show :", "show : ", "show : f", "show f", "Show", "showing", "show\n", "list", "help", ":", " : ",
    " :  : ", "f", "1 2 plus", "a-a", "f A -- A : 1",
)


class Answers(unittest.TestCase):

    def test_one_behind_the_other(self):
        desk = Desk()
        for text, answer in SAID:
            if answer is None:
                with self.assertRaises(NoKind):
                    desk.say(text)
            else:
                self.assertEqual(desk.say(text), answer, text)

    def test_answers_stay_the_same(self):
        desk = Desk()
        for text, answer in SAID:
            if not text.startswith("kind : two drop"):
                desk.say(text)
        for text, answer in SAID[-25:]:
            self.assertEqual(desk.say(text), answer, text)
            self.assertEqual(desk.say(text), answer, text)

    def test_two_desks_beside_each_other(self):
        one, other = Desk(), Desk()
        one.say("tell f : 1 plus")
        self.assertEqual(other.say("show"), "")
        self.assertEqual(other.say("tell f : a-"), "A a -- A")
        self.assertEqual(one.say("show"), "f A number -- A number : 1 plus")
        self.assertEqual(other.say("show"), "f A a -- A : a-")
        self.assertEqual(one.say("run 9 : 1 : f"), "ended 3 2")
        self.assertEqual(other.say("run 9 : 1 : f"), "ended 2 ")

    def test_what_is_shown_may_be_told_again(self):
        desk, other = Desk(), Desk()
        for text in ("tell f : 1 plus", "tell g : wrap [ do ] join", "tell h A a number -- A number a : ab-ba", "tell e : "):
            desk.say(text)
        for line in desk.say("show").split("\n"):
            other.say("tell " + line)
        self.assertEqual(other.say("show"), desk.say("show"))

    def test_names(self):
        desk = Desk()
        for name in ("f", "ff", "number", "tell", "show", "zzzzzzzz", "a", "h"):
            self.assertEqual(desk.say("tell " + name + " : 1"), "A -- A number")
        self.assertEqual(desk.say("kind : tell show number"), "A -- A number number number")


class Refusals(unittest.TestCase):

    def desk(self):
        desk = Desk()
        desk.say("tell f : 1 plus")
        desk.say("tell g A number -- A number : f f")
        return desk

    def refused(self, text, error, desk=None):
        """The refusal of what is said, by which nothing is changed."""
        desk = desk or self.desk()
        before = desk.say("show"), desk.say("kind : f g")
        with self.assertRaises(error, msg=text) as caught:
            desk.say(text)
        self.assertIs(type(caught.exception), error, text)
        self.assertEqual((desk.say("show"), desk.say("kind : f g")), before, text)
        return caught.exception

    def test_rows_that_are_none(self):
        for text in NO_ROWS:
            self.refused(text, NoRow)
            with self.assertRaises(NoRow, msg=text):
                Desk().say(text)

    def test_what_is_no_text(self):
        for odd in oddities() + [b"show", ("show",), ["show"], Touchy(), None, 1]:
            self.refused(odd, NoRow)

    def test_a_name_that_is_there(self):
        for text in ("tell f : 1 plus", "tell f : nought", "tell f : 1 do", "tell g : ", "tell f A -- A : 1",
                     "tell g A number -- A number : f f"):
            self.refused(text, Twice)
        # What is no row goes first.
        for text in ("tell f : ]", "tell f A : 1", "tell f  : 1", "tell f : a-b"):
            self.refused(text, NoRow)

    def test_books_that_are_refused(self):
        for text, what in (
            ("tell h : nought", ("word", (0,))),
            ("tell h : 1 [ f nought ] do", ("word", (1, 1))),
            ("tell h : h", ("word", (0,))),
            ("tell h : { 1 [ f h ] }", ("word", (0, 1, 1))),
            ("tell h : 2 1 do", ("kind", ((1,), (2,)))),
            ("tell h : [ 1 ] f", ("kind", ((0,), (1,)))),
            ("tell h A -- A : 1", ("told",)),
            ("tell h A a -- A a : 1 plus", ("told",)),
            ("tell h A -- A : nought", ("word", (0,))),
            ("tell h A -- A : 1 do", ("kind", ((0,), (1,)))),
            ("tell h -- : a-", ("told",)),
        ):
            error = self.refused(text, NoBook)
            self.assertEqual((error.number, error.what), (2, what), text)
        error = self.refused("tell h : nought", NoBook)
        with self.assertRaises(NoBook) as caught:
            Desk().say("tell h : nought")
        self.assertEqual(caught.exception.number, 0)

    def test_kinds_that_are_refused(self):
        self.assertEqual(self.refused("kind : 1 nought", NoWord).place, (1,))
        self.assertEqual(self.refused("kind : 1 [ g h ] do", NoWord).place, (1, 1))
        self.assertEqual(self.refused("kind : 2 1 do", NoKind).places, ((1,), (2,)))
        self.assertEqual(self.refused("kind : [ ] g", NoKind).places, ((0,), (1,)))

    def test_a_refused_word_may_be_told_otherwise(self):
        desk = self.desk()
        self.refused("tell h : nought", NoBook, desk)
        self.refused("kind : h", NoWord, desk)
        self.assertEqual(desk.say("tell h : g"), "A number -- A number")
        self.refused("tell h : g", Twice, desk)
        self.assertEqual(desk.say("kind : h"), "A number -- A number")

    def test_names_that_no_word_has_are_no_refusal_of_runs(self):
        desk = self.desk()
        for text, answer in (("run 9 :  : nought", "fault 0 "), ("short : - nought", "nought"),
                             ("alike : nought : nought -", "alike"), ("alike : nought : 1", "open")):
            self.assertEqual(desk.say(text), answer)
