"""The promise, sentence by sentence, over rows, books and stacks made by a plain counter."""

import itertools
import unittest

from takeleave.alike import alike
from takeleave.bookkinds import kinds_of, papers_of
from takeleave.clashes import go_together, least_places
from takeleave.codes import is_code, run_code
from takeleave.coding import code_of
from takeleave.derivations import book_derives, derives, filled_by, kind_by
from takeleave.desk import Desk
from takeleave.errors import NoBook, NoCode, NoKind, NoTurn, NoWord
from takeleave.fillings import filled_stack, filling_to
from takeleave.finder import found_kind
from takeleave.joins import joined
from takeleave.kinds import opens_of
from takeleave.kindtexts import read_kind, show_kind
from takeleave.least import least_row
from takeleave.mapbooks import map_book_holds
from takeleave.maps import map_of, parting
from takeleave.placing import comes_to_itself, in_place, stack_in_place
from takeleave.runs import run
from takeleave.shorter import shorter
from takeleave.shuffles import shuffle_of
from takeleave.stackkinds import fits, kind_of_stack
from takeleave.texts import read_row, read_stack, show_row, show_stack
from takeleave.things import words_in
from takeleave.turns import paper_holds, turned, turned_back
from tests.counted import STRIDE, THINGS, WORDS, counted, counted_rows, counted_stacks

BOOK = (("f", None, read_row("1 plus")), ("g", None, read_row("[ f ] dip f")), ("none", None, ()),
        ("h", read_kind("A number -- A number"), read_row("a-aa [ 1 minus h ] [ ] if")))
KINDS = kinds_of(BOOK)
# Words that go together more often than not.
MILD = read_row("1 plus a-aa [ plus ] do ab-ba [ 1 plus ] dip a- f [ a-aa ] g repeat h [ f ] { 2 3 } each wrap none join")
NONE = ("", ())


def rows_tried():
    return counted_rows(500, MILD, STRIDE * 31) + counted_rows(250, MILD, STRIDE * 9973) + counted_rows(300, WORDS)


def stacks_tried(many=40):
    return counted_stacks(many) + counted_stacks(many, THINGS[::3], 9973)


def found_or_none(row, book=BOOK, kinds=KINDS):
    try:
        return found_kind(row, book, kinds)
    except (NoKind, NoWord):
        return None


def own_names(kind, figures):
    """A kind of stacks with these figures behind each name."""
    return filled_stack(kind, tuple([
        (name, ("open", name + figures) if name[0].islower() else (name + figures, ()))
        for name in sorted(opens_of(kind, NONE))]))


def fillings_of(kind, count):
    """A filling of all names of a row's kind, by a counter."""
    things = [("number",), ("open", "z"), ("list", ("open", "y")), ("row", ("Z", ()), ("Z", (("number",),)))]
    rests = [("", ()), ("Y", ()), ("Y", (("number",),)), ("", (("open", "z"),))]
    parts = []
    for at, name in enumerate(sorted(opens_of(*kind))):
        choices = things if name[0].islower() else rests
        parts.append((name, choices[(count * 7 + at * 3) % 4]))
    return tuple(parts)


class Kinds(unittest.TestCase):

    def test_the_found_kind_comes_with_a_derivation(self):
        found = 0
        for row in rows_tried():
            told = found_or_none(row)
            if told is not None:
                found += 1
                kind, derivation = told
                self.assertIs(derives(row, derivation, BOOK, KINDS), True, show_row(row))
                self.assertEqual(kind_by(derivation), kind)
        self.assertGreater(found, 150)

    def test_each_kind_of_a_derivation_is_a_filling(self):
        for count, row in enumerate(rows_tried()):
            told = found_or_none(row)
            if told is not None:
                kind, derivation = told
                for more in range(3):
                    other = filled_by(derivation, fillings_of(kind, count + more))
                    self.assertIs(derives(row, other, BOOK, KINDS), True, show_row(row))
                    self.assertIsNotNone(filling_to(kind, kind_by(other)), show_row(row))
                self.spoilt_are_let_by_only_as_fillings(row, kind, derivation, count)

    def spoilt_are_let_by_only_as_fillings(self, row, kind, derivation, count):
        stacks, inner = derivation
        at = count % len(stacks)
        rest, kinds = stacks[at]
        for stack in (("", kinds), (rest, kinds + (("number",),)), (rest, kinds[1:]), ("Q", kinds)):
            other = (stacks[:at] + (stack,) + stacks[at + 1:], inner)
            if derives(row, other, BOOK, KINDS):
                self.assertIsNotNone(filling_to(kind, kind_by(other)), show_row(row))

    def test_least_sets_of_places(self):
        told = 0
        for row in rows_tried():
            try:
                found_kind(row, BOOK, KINDS)
                self.assertIsNone(least_places(row, BOOK, KINDS))
            except NoKind as no_kind:
                told += 1
                places = no_kind.places
                self.assertEqual(least_places(row, BOOK, KINDS), places)
                self.assertIs(go_together(row, places, BOOK, KINDS), False, show_row(row))
                for at in range(len(places)):
                    lesser = places[:at] + places[at + 1:]
                    self.assertIs(go_together(row, lesser, BOOK, KINDS), True, show_row(row))
        self.assertGreater(told, 100)

    def test_no_fault_comes(self):
        ended = {True: 0, False: 0}
        beneath = read_stack("[ nought ] [ 1 do ] { 1 { } } 7")
        for count, row in enumerate(rows_tried()[::2]):
            told = found_or_none(row)
            if told is None:
                continue
            kind, derivation = told
            take, leave = kind
            for stack in stacks_tried()[count % 3::3]:
                if not fits(stack, take, BOOK, KINDS):
                    continue
                how, steps, (end, todo) = run(row, stack, 100, BOOK)
                self.assertNotEqual(how, "fault", (show_row(row), show_stack(stack)))
                ended[how == "ended"] += 1
                if how == "ended":
                    self.ends_by_the_same_filling(kind, stack, end)
                if take[0] not in opens_of(("", take[1]), NONE):
                    self.assertEqual(run(row, beneath + stack, 100, BOOK), (how, steps, (beneath + end, todo)))
        self.assertGreater(ended[True], 500)

    def ends_by_the_same_filling(self, kind, stack, end):
        self.assertIs(fits(end, kind[1], BOOK, KINDS), True)
        kinds = [kind_of_stack(each, BOOK, KINDS) for each in (stack, end)]
        if None not in kinds:
            self.assertIsNotNone(joined(kind, tuple([own_names(each, at) for each, at in zip(kinds, "78")])))

    def test_books(self):
        words = read_row("1 plus a-aa ab-ba [ a-aa ] do dip a-")
        told = {"let by": 0, "word": 0, "kind": 0}
        for count in range(200):
            book = (("f", None, counted(count * 37, words)), ("g", None, counted(count * 53, words + read_row("f [ f ]"))),
                    ("h", None, counted(count * 71, words + read_row("g h [ f ]"))))
            try:
                kinds = kinds_of(book)
            except NoBook as no_book:
                told[no_book.what[0]] += 1
                continue
            told["let by"] += 1
            self.assertIs(book_derives(book, kinds, papers_of(book)), True)
            for (name, none, row), kind in zip(book, kinds):
                self.assertEqual(found_kind(row, book, kinds)[0], kind)
                self.assertEqual(found_kind((name,), book, kinds)[0], kind)
        self.assertGreater(min(told.values()), 10)


class Papers(unittest.TestCase):

    news = [read_row(text) for text in (
        "", "-", "a-a", "[ ] dip", "[ ] do", "1 plus", "f", "none", "ab-ba plus", "plus", "[ a-aa ] dip", "ab-aab",
        "1 ab-ba", "[ 1 ] dip", "ab-ba ab-ba", "0 [ f ] repeat", "[ plus ] do", "1 a-", "1 [ ] [ f ] if")]
    rules = ("mapped", "stepped", "turned", "dips", "beneath", "slid", "emptied")

    def some_turn(self, row, place, count):
        """A turn at a place that changes the row, either way about, or None where none of those tried is one."""
        for many, rule, at in itertools.product(range(4), self.rules, range(0, len(self.news), 2)):
            turn = (place, many, rule, self.news[(at + count) % len(self.news)])
            try:
                if turned(row, turn, BOOK) != row:
                    return turn
            except NoTurn:
                pass
        return None

    def test_rows_told_as_alike_by_any_paper(self):
        turns_done = compared = 0
        for count, row in enumerate(counted_rows(90, MILD, STRIDE)):
            paper, now = (), row
            for place in ((0,), (1,), (2,), (0, 0), (1, 0), (2, 0), (0, 0, 0), (1,)):
                turn = self.some_turn(now, place, count)
                if turn is not None:
                    paper += (turn,)
                    now = turned(now, turn, BOOK)
            turns_done += len(paper)
            self.assertIs(paper_holds(row, now, paper, BOOK), True)
            self.assertIs(paper_holds(now, row, turned_back(row, paper, BOOK), BOOK), True)
            compared += self.ends_alike(row, now)
        self.assertGreater(turns_done, 200)
        self.assertGreater(compared, 300)

    def ends_alike(self, one, other):
        """Both end with the same stack, from each stack from which both end; tells how many there were."""
        compared = 0
        for stack in stacks_tried(25):
            ends = [run(row, stack, 500, BOOK) for row in (one, other)]
            if "fault" not in [end[0] for end in ends]:
                compared += 1
                self.assertEqual(ends[0][0], ends[1][0], (show_row(one), show_row(other), show_stack(stack)))
                if ends[0][0] == "ended":
                    self.assertEqual(ends[0][2], ends[1][2], (show_row(one), show_row(other), show_stack(stack)))
        return compared

    def test_what_is_told_of_two_rows(self):
        rows = counted_rows(90, MILD, STRIDE)
        told = {"alike": 0, "parted": 0, "open": 0}
        for at, one in enumerate(rows):
            for other in (rows[(at * 7 + 1) % len(rows)], ("none",) + one, one + read_row("1 plus")):
                answer = alike(one, other, BOOK)
                told[answer[0]] += 1
                if answer[0] == "alike":
                    self.assertIs(paper_holds(one, other, answer[1], BOOK), True)
                    self.ends_alike(one, other)
                elif answer[0] == "parted":
                    ends = [run(row, answer[1], 400, BOOK) for row in (one, other)]
                    self.assertEqual([end[0] for end in ends], ["ended", "ended"])
                    self.assertNotEqual(ends[0][2], ends[1][2])
        self.assertGreater(min(told.values()), 10)

    def test_of_two_rows_of_shuffles_one_is_told(self):
        shuffles = ("-", "a-", "a-aa", "ab-ba", "abc-bca", "ab-b", "ab-aba", "abcd-dcba", "ab-ab")
        rows = counted_rows(60, shuffles, 13)
        for one, other in itertools.product(rows, rows[::4]):
            answer = alike(one, other)
            if map_of(one) == map_of(other):
                self.assertEqual(answer[0], "alike")
                self.assertIs(paper_holds(one, other, answer[1]), True)
            else:
                self.assertEqual(answer, ("parted", parting(one, other)))

    def test_shorter_rows(self):
        turns = 0
        for row in rows_tried():
            short, paper = shorter(row, BOOK)
            turns += len(paper)
            self.assertIs(paper_holds(row, short, paper, BOOK), True)
            self.assertLessEqual(words_in(short), words_in(row))
            self.assertEqual(shorter(short, BOOK), (short, ()))
        self.assertGreater(turns, 400)

    def test_least_rows(self):
        fews = (("ab-ba", "a-aa", "a-"), ("abc-bca", "ab-b"), ("ab-aba", "ab-a", "ab-ba", "a-a"))
        told = {"least": 0, "none": 0}
        for few in fews:
            for row in counted_rows(60, few, 5):
                n, picks = map_of(row)
                if n > 8 or len(picks) > 12:
                    continue
                answer = least_row(few, shuffle_of(n, picks), 3)
                told[answer[0]] += 1
                if answer[0] == "least":
                    least = answer[1]
                    self.assertEqual(map_of(least), (n, picks))
                    if least == ():
                        self.assertIsNone(answer[2])
                    else:
                        self.assertIs(map_book_holds(few, len(least) - 1, answer[2]), True)
                        self.assertNotIn((n, picks), dict(answer[2]))
                else:
                    self.assertIs(map_book_holds(few, 3, answer[1]), True)
                    self.assertNotIn((n, picks), dict(answer[1]))
        self.assertGreater(min(told.values()), 3)


class Others(unittest.TestCase):

    def test_the_register_row_tells_what_the_row_tells(self):
        compared = 0
        for row in rows_tried()[::2]:
            try:
                code = code_of(row, BOOK)
            except NoCode as no_code:
                self.assertLess(no_code.place[0], len(row))
                self.assertEqual(len(no_code.place), 1)
                continue
            self.assertIs(is_code(code), True)
            for stack in stacks_tried(25):
                how, steps, (end, todo) = run(row, stack, 3000, BOOK)
                many = len(stack) - code[0]
                if how == "ended" and many >= 0:
                    compared += 1
                    self.assertEqual(stack[:many] + run_code(code, stack[many:]), end, show_row(row))
        self.assertGreater(compared, 1000)

    def test_told_words_put_in_place_change_no_end(self):
        compared = 0
        names = [name for name, told, row in BOOK if not comes_to_itself(name, BOOK)]
        self.assertEqual(names, ["f", "g", "none"])
        for name in names:
            for row in rows_tried()[::9]:
                behind = in_place(row, name, BOOK)
                self.assertNotIn(name, show_row(behind).split(" "))
                told, told_behind = found_or_none(row), found_or_none(behind)
                self.assertEqual(told and told[0], told_behind and told_behind[0])
                for stack in stacks_tried(12):
                    ends = [run(row, stack, 200, BOOK), run(behind, stack_in_place(stack, name, BOOK), 200, BOOK)]
                    if "on" in (ends[0][0], ends[1][0]):
                        continue
                    compared += 1
                    self.assertEqual(ends[0][0], ends[1][0])
                    if ends[0][0] == "ended":
                        self.assertEqual(stack_in_place(ends[0][2][0], name, BOOK), ends[1][2][0])
        self.assertGreater(compared, 1500)

    def test_a_desk_tells_what_the_others_tell(self):
        desk = Desk()
        for name, told, row in BOOK:
            kind = "" if told is None else show_kind(*told) + " "
            self.assertEqual(desk.say("tell " + name + " " + kind + ": " + show_row(row)),
                             show_kind(*KINDS[[each[0] for each in BOOK].index(name)]))
        for count, row in enumerate(rows_tried()[::5]):
            text, stack = show_row(row), stacks_tried()[count % 80]
            told = found_or_none(row)
            if told is not None:
                self.assertEqual(desk.say("kind : " + text), show_kind(*told[0]))
            how, steps, (end, todo) = run(row, stack, 50, BOOK)
            self.assertEqual(desk.say("run 50 : " + show_stack(stack) + " : " + text),
                             how + " " + str(steps) + " " + show_stack(end))
            self.assertEqual(desk.say("short : " + text), show_row(shorter(row, BOOK)[0]))
            self.assertEqual(desk.say("alike : " + text + " : " + show_row(row + ("none",))), "alike")
        self.assertEqual(desk.say("show").split("\n")[0], "f A number -- A number : 1 plus")
