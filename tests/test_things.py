"""Things, words, rows, stacks and names."""

import unittest

from takeleave.things import is_name, is_row, is_stack, is_thing, is_word, words_in
from tests.samples import oddities, rows_in, things_in

BASIC = "plus minus times less same do dip if while repeat join wrap put part each".split()
ONE = ("number", 1)


class TellsTruths(unittest.TestCase):

    def tells(self, asked, truth, *values):
        for value in values:
            self.assertIs(asked(value), truth, f"{asked.__name__} of {value!r}"[:200])


class Things(TellsTruths):

    def test_numbers(self):
        self.tells(is_thing, True, ("number", 0), ONE, ("number", 10 ** 12 - 1))
        self.tells(is_thing, False, ("number", 10 ** 12), ("number", -1), ("number", 10 ** 30))

    def test_truths_are_no_numbers(self):
        self.tells(is_thing, False, ("number", True), ("number", False), True, False)

    def test_rows_and_lists(self):
        self.tells(is_thing, True, ("row", ()), ("row", ("plus",)), ("row", (("push", ONE), "a-aa", "f")),
                   ("list", ()), ("list", (ONE,)), ("list", (ONE, ("row", ()), ("list", ()))))
        self.tells(is_thing, False, ("row", (ONE,)), ("list", ("plus",)), ("list", (("push", ONE),)),
                   ("row", ("Plus",)), ("row", "plus"), ("row", ONE), ("list", ONE), ("list", "a"))

    def test_a_fault_deep_within(self):
        self.tells(is_thing, True, ("list", (("row", (("push", ("list", (ONE, ONE))),)),)))
        self.tells(is_thing, False, ("list", (("row", (("push", ("list", (ONE, ("number", True)))),)),)))
        self.tells(is_thing, False, ("list", (("number", -1), ONE)), ("list", (ONE, ("number", -1))))

    def test_lists_in_the_place_of_tuples(self):
        self.tells(is_thing, False, ["number", 1], ("row", []), ("row", ["plus"]), ("list", []), ("list", [ONE]),
                   ("list", (["number", 1],)), ("row", (["push", ONE],)), ("row", (("push", ["number", 1]),)))

    def test_a_part_too_many_or_too_few(self):
        self.tells(is_thing, False, (), ("number",), ("row",), ("list",), ("number", 1, 1), ("row", (), ()),
                   ("list", (), ()), ("row", (("push",),)), ("row", (("push", ONE, ONE),)))

    def test_other_marks(self):
        self.tells(is_thing, False, ("push", ONE), ("open", "a"), ("Number", 1), ("", 1), (1, "number"), ("rows", ()))

    def test_anything(self):
        self.tells(is_thing, False, *oddities())

    def test_things_a_hundred_brackets_deep(self):
        row, held = ("row", ()), ("list", ())
        wrong = ("list", (True,))
        for at in range(99):
            row, held, wrong = ("row", (("push", row),)), ("list", (held,)), ("row", (("push", wrong),))
        self.tells(is_thing, True, row, held)
        self.tells(is_thing, False, wrong)

    def test_made_ones(self):
        self.tells(is_thing, True, *things_in(1, 200))


class Words(TellsTruths):

    def test_basic_words(self):
        self.assertEqual(len(BASIC), 15)
        self.tells(is_word, True, *BASIC)
        self.tells(is_name, False, *BASIC)

    def test_shuffles(self):
        self.tells(is_word, True, "-", "a-", "a-aa", "ab-ba", "abcdefgh-hgfedcba")
        self.tells(is_word, False, "a-b", "b-a", "a--", "ab-ba ", "abcdefghi-", "a-aaaaaaaaaaaaa")

    def test_names(self):
        self.tells(is_word, True, "f", "a", "number", "abcdefgh", "zzzzzzzz", "push", "row", "list", "open")
        self.tells(is_word, False, "abcdefghi", "", "F", "f1", "f_", "f f", "\u00e9", "f\n")

    def test_pushes(self):
        self.tells(is_word, True, ("push", ONE), ("push", ("row", ("plus",))), ("push", ("list", ())))
        self.tells(is_word, False, ("push", "plus"), ("push", 1), ("push",), ("push", ONE, ONE), ["push", ONE],
                   ("Push", ONE), ("pull", ONE), ONE, ("push", ("push", ONE)), ("push", True), (ONE, "push"))

    def test_anything(self):
        self.tells(is_word, False, *oddities())


class Names(TellsTruths):

    def test_one_to_eight_small_letters(self):
        self.tells(is_name, True, "a", "z", "ab", "abcdefg", "abcdefgh", "zzzzzzzz")
        self.tells(is_name, False, "", "abcdefghi", "A", "aB", "a1", "a-", "-", "a a", " a", "a ", "a\n", "\u00e4", "\u03b1")

    def test_beginning_as_a_basic_word_or_going_on_behind_one(self):
        self.tells(is_name, True, "plu", "pluss", "d", "doo", "i", "ifs", "whil", "whiles", "xdo", "dodo", "eachone")

    def test_anything(self):
        self.tells(is_name, False, *oddities())
        self.tells(is_name, False, ("f",), ["f"], b"f", ("f", None, ()))


class RowsAndStacks(TellsTruths):

    def test_rows(self):
        self.tells(is_row, True, (), ("plus",), ("f", "a-", ("push", ("row", ()))), tuple(BASIC))
        self.tells(is_row, False, ["plus"], "plus", ("plus", ONE), ("plus", "Plus"), ("push", ONE), ("plus", None),
                   ("plus", ["push", ONE]), (("plus",),), ("a-b",), ("",))

    def test_a_row_of_one_letter_names_is_no_text(self):
        self.tells(is_row, True, ("d", "o"))
        self.tells(is_row, False, "do", "d", b"do")

    def test_stacks(self):
        self.tells(is_stack, True, (), (ONE,), (ONE, ("row", ("plus",)), ("list", (ONE,))))
        self.tells(is_stack, False, [], [ONE], ONE, (ONE, "plus"), (ONE, ("number", -1)), (("number", -1), ONE),
                   (1,), ("push", ONE), (("push", ONE),), ((),), ((ONE,),))

    def test_anything(self):
        self.tells(is_row, False, *oddities())
        self.tells(is_stack, False, *oddities())

    def test_a_tuple_that_begins_like_a_thing_may_be_a_row_of_names(self):
        self.tells(is_row, True, ("number",), ("row", "plus"), ("push", "plus"), ("push", ("push", ONE)))
        self.tells(is_stack, False, ("number",), ("row", "plus"), ("push", "plus"), ("push", ("push", ONE)))

    def test_more_than_the_bounds(self):
        self.tells(is_row, True, ("plus",) * 500)
        self.tells(is_stack, True, (ONE,) * 500)

    def test_made_ones(self):
        self.tells(is_row, True, *rows_in(2, 200))
        self.tells(is_stack, True, tuple(things_in(3, 60)))


class WordsInAll(unittest.TestCase):

    def test_without_pushed_rows(self):
        self.assertEqual(words_in(()), 0)
        self.assertEqual(words_in(("plus",)), 1)
        self.assertEqual(words_in(("push", "f", "a-aa")), 3)
        self.assertEqual(words_in((("push", ONE), "plus")), 2)

    def test_with_pushed_rows(self):
        self.assertEqual(words_in((("push", ("row", ())),)), 1)
        self.assertEqual(words_in((("push", ("row", ("plus", "f"))), "do")), 4)
        inner = ("push", ("row", ("f", "f", "f")))
        self.assertEqual(words_in((("push", ("row", (inner, inner))), "do", inner)), 1 + 1 + 1 + 2 + 9)

    def test_with_pushed_lists(self):
        self.assertEqual(words_in((("push", ("list", ())),)), 1)
        self.assertEqual(words_in((("push", ("list", (ONE, ONE))),)), 1)
        held = ("list", (ONE, ("row", ("f", "f")), ("list", (("row", ("f", "f", "f")), ONE))))
        self.assertEqual(words_in((("push", held), "f")), 7)

    def test_a_hundred_brackets_deep(self):
        thing = ("row", ("f",))
        for at in range(99):
            thing = ("list", (("row", (("push", thing), "f")),))
        self.assertEqual(words_in((("push", thing),)), 2 + 99 * 2)
