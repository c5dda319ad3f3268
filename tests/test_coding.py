"""The code of a row, and what it tells."""

import unittest

from takeleave.codes import is_code, run_code
from takeleave.coding import code_of
from takeleave.errors import NoCode
from takeleave.runs import run
from takeleave.texts import read_row, read_stack, show_row, show_stack
from tests.counted import STRIDE, THINGS, WORDS, counted_rows, counted_stacks
from tests.oracle import plain_coded, plain_depth, plain_parts

BOOK = (("f", None, read_row("1 plus")), ("g", None, read_row("[ f ] dip f")), ("h", None, read_row("g [ g ] do")),
        ("none", None, ()), ("self", None, read_row("[ self ] a-")), ("own", None, read_row("[ own ]")),
        ("again", None, ("again",)), ("loop", None, read_row("a-aa [ 1 minus loop ] [ ] if")))

# A row, how many things its code takes, and pairs of stacks it takes and what it tells.
CODED = (
    ("", 0, (("", ""),)),
    ("1", 0, (("", "1"),)),
    ("1 2 plus", 0, (("", "3"),)),
    ("0 1 minus 3 times 2 less 0 same", 0, (("", "1"),)),
    ("-", 0, (("", ""),)),
    ("ab-ab", 2, (("1 [ ]", "1 [ ]"),)),
    ("a-", 1, (("{ }", ""),)),
    ("a-aa plus", 1, (("21", "42"),)),
    ("ab-ba minus", 2, (("3 5", "2"),)),
    ("abcdefgh-hgfedcbahgfe", 8, (("1 2 3 4 5 6 7 8", "8 7 6 5 4 3 2 1 8 7 6 5"),)),
    ("plus", 2, (("3 5", "8"),)),
    ("5 plus", 1, (("3", "8"),)),
    ("5 ab-ba minus", 1, (("3", "2"),)),
    ("less", 2, (("3 5", "1"), ("5 3", "0"))),
    ("put", 2, (("{ } 1", "{ 1 }"),)),
    ("{ 1 } 2 put", 0, (("", "{ 1 2 }"),)),
    ("{ 1 } ab-ba put", 1, (("[ f ]", "{ 1 [ f ] }"),)),
    ("wrap", 1, (("{ 1 }", "[ { 1 } ]"),)),
    ("join", 2, (("[ f ] [ plus ]", "[ f plus ]"),)),
    ("[ 1 ] join", 1, (("[ f ]", "[ f 1 ]"),)),
    ("[ f ] wrap [ do ] join", 0, (("", "[ [ f ] do ]"),)),
    ("[ a-aa plus ] do", 1, (("4", "8"),)),
    ("[ ] do", 0, (("", ""),)),
    ("[ plus ] dip", 3, (("3 4 [ ]", "7 [ ]"),)),
    ("[ ] dip", 1, (("3", "3"),)),
    ("5 [ plus ] dip", 2, (("3 4", "7 5"),)),
    ("[ plus ] a-aa [ do ] dip do", 3, (("1 2 3", "6"),)),
    ("2 wrap [ plus ] join do", 1, (("5", "7"),)),
    ("[ 1 ] [ 2 ] if", 1, (("0", "2"), ("7", "1"))),
    ("1 [ 1 ] [ 2 3 ] if", 0, (("", "1"),)),
    ("0 [ 1 ] [ 2 3 ] if", 0, (("", "2 3"),)),
    ("1 1 minus [ while ] [ 7 ] if", 0, (("", "7"),)),
    ("[ 1 plus ] [ a-aa times ] if", 2, (("5 0", "25"), ("5 1", "6"))),
    ("[ ab- 9 ] [ a- ] if", 3, (("1 2 0", "1"), ("1 2 5", "9"))),
    ("[ ] [ ] if", 1, (("0", ""), ("1", ""))),
    ("[ ab-ab ] [ ] if", 3, (("3 4 0", "3 4"), ("3 4 1", "3 4"))),
    ("3 ab-ba [ 1 plus ] [ ] if", 1, (("0", "3"), ("1", "4"))),
    ("[ [ 1 ] [ 2 ] if ] [ a- 3 ] if", 2, (("0 0", "3"), ("0 1", "2"), ("1 1", "1"))),
    ("[ 1 [ 5 plus ] [ while ] if ] [ 2 plus ] if", 2, (("1 0", "3"), ("1 1", "6"))),
    ("[ 1 ] [ 2 ] if [ plus ] do", 2, (("5 0", "7"), ("5 1", "6"))),
    ("f", 1, (("4", "5"),)),
    ("g", 2, (("4 7", "5 8"),)),
    ("h", 2, (("4 7", "6 9"),)),
    ("none", 0, (("", ""),)),
    ("self", 0, (("", ""),)),
    ("self self", 0, (("", ""),)),
    ("own", 0, (("", "[ own ]"),)),
    ("own do", 0, (("", "[ own ]"),)),
    ("own do do do", 0, (("", "[ own ]"),)),
    ("[ again ]", 0, (("", "[ again ]"),)),
    ("[ again nought while ] a-", 0, (("", ""),)),
    ("{ [ nought ] }", 0, (("", "{ [ nought ] }"),)),
    ("1 [ f ] [ again ] if", 1, (("4", "5"),)),
    ("[ f ] a-aa join do", 1, (("4", "6"),)),
    ("f [ f ] [ f f ] if", 2, (("6 0", "7"),)),
)

# A row without a code, and the number of the word at which there is none.
UNCODED = (
    # while, repeat, part, each.
    ("[ 0 ] [ ] while", 2),
    ("0 [ ] repeat", 2),
    ("3 [ f ] repeat", 2),
    ("{ } [ ] [ ] part", 3),
    ("{ } [ ] each", 2),
    ("while", 0),
    ("1 2 plus each", 3),
    # do, dip and if without known rows.
    ("do", 0),
    ("1 do", 1),
    ("{ } do", 1),
    ("dip", 0),
    ("1 dip", 1),
    ("1 a-aa ab-ba dip", 3),
    ("if", 0),
    ("[ ] if", 1),
    ("1 ab-ba [ ] if", 3),
    ("1 ab-ba [ ] ab-ba if", 4),
    ("1 abc-bca [ ] if", 3),
    ("wrap do", 1),
    ("[ ] join do", 2),
    ("[ 1 ] [ 2 ] if wrap do", 4),
    ("[ [ f ] ] [ [ f ] ] if do", 3),
    ("[ f ] ab-ba [ do ] [ a- f ] if", 4),
    ("{ [ f ] } [ do ] [ do ] part", 3),
    # Sides that leave unlike many.
    ("[ 1 ] [ ] if", 2),
    ("[ a- ] [ a-a ] if", 2),
    ("[ a-aa ] [ ] if", 2),
    ("f [ [ 1 ] [ ] if ] [ a- 1 ] if", 3),
    # A told word that is come to again.
    ("again", 0),
    ("1 again", 1),
    ("loop", 0),
    ("3 loop", 1),
    ("[ again ] do", 1),
    ("1 [ again ] dip", 2),
    ("[ again ] [ ] if", 2),
    ("1 [ again ] [ ] if", 3),
    # A known thing that is not as the word asks.
    ("[ ] plus", 1),
    ("[ ] 1 plus", 2),
    ("1 [ ] minus", 2),
    ("{ } times", 1),
    ("[ ] [ ] same", 2),
    ("1 2 put", 2),
    ("[ ] ab-ba put", 2),
    ("[ 1 ] 2 put", 2),
    ("1 join", 1),
    ("1 [ ] join", 2),
    ("{ } [ ] join", 2),
    ("[ ] 1 join", 2),
    ("1 2 dip", 2),
    ("[ ] [ ] [ ] if", 3),
    ("{ } [ ] [ ] if", 3),
    ("1 2 [ ] if", 3),
    ("1 [ ] { } if", 3),
    ("0 1 [ ] if", 3),
    ("0 [ ] 1 if", 3),
    # A text that is no word.
    ("nought", 0),
    ("1 nought plus", 1),
    ("[ nought ] do", 1),
    ("1 [ nought ] dip", 2),
    ("[ nought ] [ ] if", 2),
    ("[ ] [ nought ] if", 2),
    ("0 [ ] [ nought ] if", 3),
    # From within rows that are pushed, one in the other, and told words.
    ("1 [ 2 [ 3 [ while ] do ] do ] do 4", 2),
    ("[ 1 [ each ] dip ] do", 1),
    ("f [ ] plus", 2),
    ("f f [ f [ ] [ 1 ] if ] do", 3),
)


def code_or_place(row, book=BOOK):
    """("code", takes, how many are left), or ("none", place)."""
    try:
        takes, ops, outs = code_of(row, book)
    except NoCode as no_code:
        return "none", no_code.place
    return "code", takes, len(outs)


def nested(depth):
    """A row as a thing, so many brackets deep."""
    thing = ("row", ())
    for at in range(depth - 1):
        thing = ("row", (("push", thing),))
    return thing


class Codes(unittest.TestCase):

    def against_runs(self, row, stacks, book=BOOK):
        """The code tells what the row leaves, from each stack from which it ends; tells how many there were."""
        code = code_of(row, book)
        self.assertIs(is_code(code), True, show_row(row))
        takes, compared = code[0], 0
        for stack in stacks:
            how, steps, (end, todo) = run(row, stack, 3000, book)
            if len(stack) < takes or how != "ended":
                continue
            compared += 1
            beneath = stack[:len(stack) - takes]
            told = run_code(code, stack[len(stack) - takes:])
            self.assertEqual(beneath + told, end, (show_row(row), show_stack(stack)))
        return compared

    def test_ordinary_ones(self):
        for text, takes, told in CODED:
            row = read_row(text)
            code = code_of(row, BOOK)
            self.assertIs(is_code(code), True, text)
            self.assertEqual(code[0], takes, text)
            for things, left in told:
                self.assertEqual(show_stack(run_code(code, read_stack(things))), left, (text, things))
                stacks = [read_stack((beneath + " " + things).strip()) for beneath in ("", "7", "[ f ] { 1 } 3")]
                self.assertEqual(self.against_runs(row, stacks), 3, (text, things))

    def test_refused_ones(self):
        for text, number in UNCODED:
            with self.assertRaises(NoCode, msg=text) as caught:
                code_of(read_row(text), BOOK)
            self.assertEqual(caught.exception.place, (number,), text)

    def test_with_words_ahead_and_behind(self):
        for text, number in UNCODED:
            row = read_row("7 a-") + read_row(text) + read_row("nought while")
            with self.assertRaises(NoCode, msg=text) as caught:
                code_of(row, BOOK)
            self.assertEqual(caught.exception.place, (number + 2,), text)

    def test_from_within_a_pushed_row_and_a_told_word(self):
        for text, number in UNCODED:
            row = read_row(text)
            pushed = ("push", ("row", row))
            book = BOOK + (("bad", None, row), ("worse", None, ("none", pushed, "do")))
            one = ("push", ("number", 1))
            for around, place in (
                ((pushed, "do"), 1), ((one, pushed, "dip"), 2), ((one, pushed, ("push", ("row", ())), "if"), 3),
                ((("push", ("row", (pushed, "do"))), "do"), 1), (("bad",), 0), ((one, "a-", "worse"), 2),
                ((("push", ("row", ("bad",))), "do"), 1),
            ):
                with self.assertRaises(NoCode, msg=text) as caught:
                    code_of(around, book)
                self.assertEqual(caught.exception.place, (place,), (text, show_row(around)))

    def test_without_a_book(self):
        for book in (None, ()):
            self.assertEqual(code_or_place(("f",), book), ("none", (0,)))
            self.assertEqual(code_or_place(read_row("1 2 plus a-"), book), ("code", 0, 0))
        self.assertEqual(code_of(read_row("a-")), (1, (), ()))
        with self.assertRaises(NoCode):
            code_of(read_row("1 f"))

    def test_texts_like_words_that_are_none(self):
        for text in ("a-b", "", "Plus", "abcdefghi", "b-", "[", "1"):
            for row, number in (((text,), 0), (("a-", text), 1), ((("push", ("row", (text,))), "do"), 1)):
                with self.assertRaises(NoCode) as caught:
                    code_of(row, BOOK)
                self.assertEqual(caught.exception.place, (number,))

    def test_things_from_beneath_are_not_known_within_sides(self):
        self.assertEqual(code_or_place(read_row("[ f ] ab-ba [ a- 1 ] [ a- 2 ] if")), ("code", 1, 1))
        self.assertEqual(code_or_place(read_row("[ f ] ab-ba [ do ] [ do ] if")), ("none", (4,)))
        self.assertEqual(code_or_place(read_row("1 ab-ba [ [ 1 ] [ 2 ] if ] [ ] if")), ("code", 1, 1))
        # What is left of such an if is not known, and what lies beneath it still is.
        self.assertEqual(code_or_place(read_row("[ f ] ab-ba [ [ f ] ] [ [ f ] ] if a- do")), ("code", 2, 1))
        self.assertEqual(code_or_place(read_row("[ f ] ab-ba [ [ f ] ] [ [ f ] ] if do")), ("none", (5,)))
        # A number that is known where the row is told tells the side.
        self.assertEqual(code_or_place(read_row("[ f ] 1 [ do ] [ do ] if")), ("code", 1, 1))

    def test_takes_is_what_was_looked_at(self):
        for text, takes in (("ab-ab", 2), ("1 ab-ab", 1), ("1 2 ab-ab", 0), ("abc-", 3), ("[ ab-ab ] dip", 3),
                            ("1 [ ab-ab ] dip", 2), ("[ abc-abc ] [ a-a ] if", 4), ("a- a- a-", 3), ("[ a-a ] do", 1),
                            ("1 [ abcdefgh-abcdefgh ] [ ] if", 8), ("0 [ abcdefgh-abcdefgh ] [ ] if", 0)):
            self.assertEqual(code_of(read_row(text))[0], takes, text)


class Bounds(unittest.TestCase):

    def place_of(self, row, book=BOOK):
        told = code_or_place(row, book)
        return told[1] if told[0] == "none" else None

    def test_things_of_four_hundred_words(self):
        for many, other, place in ((200, 200, None), (399, 1, None), (400, 0, None), (200, 201, (2,)), (401, 0, (2,))):
            rows = [("push", ("row", ("a-",) * each)) for each in (many, other)]
            self.assertEqual(self.place_of((*rows, "join")), place, (many, other))
        for many, place in ((399, None), (400, (1,))):
            self.assertEqual(self.place_of((("push", ("row", ("a-",) * many)), "wrap")), place)
            self.assertEqual(self.place_of((("push", ("list", (("number", 1),) * many)), "wrap")), place)
            pushes = ("push", ("list", (("number", 1),) * many)), ("push", ("number", 1)), "put"
            self.assertEqual(self.place_of(pushes), None if place is None else (2,))
        # Each counts as often as it stands: words, words of pushed rows, things of lists and of lists in them.
        inner = ("list", (("row", ("a-", ("push", ("number", 1)))), ("list", (("number", 1),))))
        self.assertEqual(plain_parts(inner), 5)
        for many, rest, place in ((66, 2, None), (66, 3, None), (66, 4, (2,)), (67, 0, (2,))):
            pushes = ("push", ("list", (inner,) * many)), ("push", ("row", ("a-",) * rest)), "put"
            self.assertEqual(self.place_of(pushes), place, (many, rest))

    def test_things_a_hundred_brackets_deep(self):
        for depth, place in ((98, None), (99, None), (100, (1,)), (101, (1,))):
            self.assertEqual(plain_depth(nested(depth)), depth)
            self.assertEqual(self.place_of((("push", nested(depth)), "wrap")), place, depth)
            self.assertEqual(self.place_of((("push", ("list", ())), ("push", nested(depth)), "put")), place and (2,))
        for depth, place in ((100, None), (101, (2,))):
            self.assertEqual(self.place_of((("push", nested(depth)), ("push", ("row", ())), "join")), place)
        book = (("ten", None, ("wrap",) * 10),)
        row = read_row("[ ]") + ("ten",) * 9 + ("wrap",) * 9
        self.assertEqual(self.place_of(row, book), None)
        self.assertEqual(self.place_of(row + ("wrap",), book), (19,))

    def test_things_that_are_not_known_may_grow(self):
        row = read_row("[ ] join") + ("a-aa", "join") * 20
        self.assertEqual(code_or_place(row), ("code", 1, 1))

    def test_a_thousand_words(self):
        book = (("ten", None, ("-",) * 10), ("hundred", None, ("ten",) * 9), ("half", None, ("hundred",) * 5))
        # ten is 11 words with its name, hundred 100, half 501.
        self.assertEqual(self.place_of(("hundred",) * 10, book), None)
        self.assertEqual(self.place_of(("hundred",) * 10 + ("-",), book), (10,))
        self.assertEqual(self.place_of(("-",) + ("hundred",) * 10, book), (10,))
        self.assertEqual(self.place_of(("half",) + ("hundred",) * 4 + ("-",) * 99, book), None)
        self.assertEqual(self.place_of(("half",) + ("hundred",) * 4 + ("-",) * 100, book), (104,))
        self.assertEqual(self.place_of(("half", "half"), book), (1,))
        self.assertEqual(self.place_of(("half",) + ("hundred",) * 4 + ("ten",) * 9, book), None)
        self.assertEqual(self.place_of(("half",) + ("hundred",) * 4 + ("ten",) * 9 + ("-",), book), (14,))

    def test_what_counts_as_a_word(self):
        book = (("ten", None, ("-",) * 10), ("hundred", None, ("ten",) * 9), ("none", None, ()))
        most = ("hundred",) * 9
        # A hundred words are left: do, dip, if and pushes count, and so do the names of told words.
        for text, many in (("[ - ] do", 3), ("1 [ - ] dip", 4), ("1 [ - ] [ - - ] if", 5), ("1 a-", 2), ("none", 1),
                           ("[ - - ] a-", 2), ("[ ] do", 2), ("{ 1 2 3 } a-", 2), ("1 1 plus", 3)):
            row = most + read_row(text)
            left = 100 - many
            self.assertEqual(self.place_of(row + ("-",) * left, book), None, text)
            self.assertEqual(self.place_of(row + ("-",) * left + ("-",), book), (len(row) + left,), text)

    def test_both_sides_count(self):
        book = (("ten", None, ("-",) * 10), ("hundred", None, ("ten",) * 9))
        side = ("push", ("row", ("hundred",) * 4))
        row = (side, side, "if", "hundred", "ten", "ten", "ten", "ten", "ten", "ten", "ten", "ten")
        self.assertEqual(code_or_place(row + ("-",) * 9, book), ("code", 1, 0))
        self.assertEqual(code_or_place(row + ("-",) * 10, book), ("none", (len(row) + 9,)))
        side = ("push", ("row", ("hundred",) * 5))
        self.assertEqual(code_or_place((side, side, "if"), book), ("none", (2,)))
        # Where the number is known, one side alone counts.
        self.assertEqual(code_or_place((("push", ("number", 1)), side, side, "if"), book), ("code", 0, 0))

    def test_rows_done_within_one_another(self):
        self.assertEqual(code_or_place(read_row("[ a-aa do ] a-aa do")), ("none", (2,)))
        self.assertEqual(code_or_place(read_row("1 [ 1 ab-ba a-aa do ] a-aa do")), ("none", (3,)))
        self.assertEqual(code_or_place(read_row("[ a-aa 1 ab-ba dip ] a-aa do")), ("none", (2,)))
        self.assertEqual(code_or_place(read_row("1 [ a-aa 1 ab-ba [ ] if ] a-aa do")), ("none", (3,)))
        self.assertEqual(code_or_place(read_row("[ 1 ab-ba a-aa [ do ] dip do ] a-aa do")), ("none", (2,)))
        # Just as deep as a thousand words go, and each side of a choice within the other one.
        book = (("wide", None, read_row("wrap [ a-aa ] ab-ba join [ [ ] if ] join")),)
        row = read_row("[ 5 plus ]") + ("wide",) * 80 + ("do",)
        code = code_of(row, book)
        self.assertIs(is_code(code), True)
        self.assertEqual(code[0], 1)
        for number, told in (("0", "0"), ("1", "6")):
            self.assertEqual(show_stack(run_code(code, read_stack(number))), told)

    def test_choices_within_one_another_by_told_words(self):
        names = "bcdefghi"
        book = []
        for at, name in enumerate(names):
            row = (names[at + 1],) if at + 1 < len(names) else read_row("5 plus")
            for deep in range(6):
                row = ("a-aa", ("push", ("row", row)), ("push", ("row", ())), "if")
            book.append((name, None, row))
        code = code_of(("b",), tuple(book))
        self.assertEqual(code[0], 1)
        self.assertIs(is_code(code), True)
        for number, told in (("0", "0"), ("1", "6")):
            self.assertEqual(show_stack(run_code(code, read_stack(number))), told)


class Counted(unittest.TestCase):

    def test_against_the_plain_way(self):
        told = {"code": 0, "none": 0}
        for row in counted_rows(2500) + counted_rows(2000, WORDS[:9], STRIDE * 31) + counted_rows(300, WORDS, STRIDE ** 3):
            wanted = plain_coded(row, BOOK)
            self.assertEqual(code_or_place(row), wanted, show_row(row))
            told[wanted[0]] += 1
        self.assertGreater(min(told.values()), 400)

    def test_against_runs(self):
        stacks = counted_stacks(60) + counted_stacks(60, THINGS[:4], 9973)
        compared = 0
        for row in counted_rows(500) + counted_rows(700, WORDS[:9], STRIDE * 31):
            if plain_coded(row, BOOK)[0] == "code":
                compared += Codes().against_runs(row, stacks)
        self.assertGreater(compared, 3000)

    def test_choices_against_runs(self):
        words = read_row("[ 1 plus ] [ a-aa times ] if a-aa [ ab-ba minus ] [ plus ] [ a- ] [ ab-b ] if 3 dip do f")
        stacks = counted_stacks(80, read_stack("0 1 2 3 7"), 7919)
        compared = chosen = 0
        for row in counted_rows(9000, words, 3391):
            if plain_coded(row, BOOK)[0] == "code":
                code = code_of(row, BOOK)
                if any([op[0] == "if" for op in code[1]]):
                    chosen += 1
                    compared += Codes().against_runs(row, stacks)
        self.assertGreater(chosen, 100)
        self.assertGreater(compared, 2000)

    def test_what_is_handed_in_stays(self):
        row = read_row("g [ 1 plus ] [ f ] if")
        before = repr((row, BOOK))
        code_of(row, BOOK)
        self.assertEqual(repr((row, BOOK)), before)
