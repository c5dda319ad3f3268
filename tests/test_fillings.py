"""Fillings, kinds that are filled, and one row's kind as a filling of another one."""

import unittest

from takeleave.fillings import after, filled, filled_stack, filling_to, is_filling_form, same_kind
from takeleave.kinds import is_kind, is_row_kind, is_stack_kind, opens_of, told_form
from takeleave.kindtexts import read_kind, show_kind
from takeleave.shuffles import is_shuffle
from takeleave.things import is_name, is_row, is_stack, is_thing, is_word
from tests.samples import filled_row, filling, fillings_in, kind, oddities, row_kinds_in, stack

NUMBER = ("number",)
A, B, NONE = ("A", ()), ("B", ()), ("", ())


def open_(name):
    return ("open", name)


class Forms(unittest.TestCase):

    def tells(self, truth, *values):
        for value in values:
            self.assertIs(is_filling_form(value), truth, repr(value)[:200])

    def test_ordinary_ones(self):
        self.tells(True, (), (("a", NUMBER),), (("A", A),), (("A", NONE),), (("A", B), ("B", A)),
                   (("A", ("", (NUMBER,))), ("a", open_("a")), ("b", ("list", NUMBER))),
                   (("A", A), ("A1", A), ("A10", A), ("A2", A), ("B", A), ("a", NUMBER), ("a1", NUMBER), ("b", NUMBER)))

    def test_names_that_do_not_rise(self):
        self.tells(False, (("b", NUMBER), ("a", NUMBER)), (("a", NUMBER), ("A", A)), (("B", A), ("A", A)),
                   (("A1", A), ("A", A)), (("A2", A), ("A10", A)), (("a", NUMBER), ("c", NUMBER), ("b", NUMBER)))

    def test_a_name_twice(self):
        self.tells(False, (("a", NUMBER), ("a", NUMBER)), (("A", A), ("A", A)), (("A", A), ("A", B)),
                   (("A", A), ("a", NUMBER), ("a", open_("b"))))

    def test_a_rest_with_a_kind_of_things_and_the_other_way_about(self):
        self.tells(False, (("A", NUMBER),), (("A", open_("a")),), (("A", ("row", A, B)),), (("a", A),), (("a", NONE),),
                   (("a", ("", (NUMBER,))),), (("A", A), ("a", A)), (("A", NUMBER), ("a", NUMBER)))

    def test_no_names(self):
        self.tells(False, (("", NONE),), (("number", NUMBER),), (("a0", NUMBER),), (("A01", A),), (("ab", NUMBER),),
                   ((b"a", NUMBER),), ((None, NUMBER),), ((1, NUMBER),), ((True, NUMBER),), ((("a",), NUMBER),),
                   ((["a"], NUMBER),))

    def test_no_kinds(self):
        self.tells(False, (("a", None),), (("a", "number"),), (("a", ["number"]),), (("A", ["A", ()]),), (("a", ()),),
                   (("a", ("open", "A")),), (("A", ("a", ())),), (("a", ("list", ("open", "a0"))),), (("A", "A"),))

    def test_other_forms(self):
        self.tells(False, [], [("a", NUMBER)], (["a", NUMBER],), (("a",),), (("a", NUMBER, NUMBER),), ("a", NUMBER),
                   ((),), (("a", NUMBER), ()), (("a", NUMBER), None), {"a": NUMBER}, "", "a", None, True, 0)

    def test_anything(self):
        self.tells(False, *oddities())
        self.tells(False, *[(odd,) for odd in oddities()])
        self.tells(False, *[(("a", odd),) for odd in oddities()])
        self.tells(False, *[(("A", odd),) for odd in oddities()])
        self.tells(False, *[((odd, NUMBER),) for odd in oddities()])

    def test_made_ones(self):
        self.tells(True, *fillings_in(41, 200))


class Filled(unittest.TestCase):

    def test_kinds_of_things(self):
        by = filling(a="number", b="{ a }", A="B number", B="")
        for text, told in {
            "number": "number",
            "a": "number",
            "b": "{ a }",
            "c": "c",
            "a1": "a1",
            "{ a }": "{ number }",
            "{ { b } }": "{ { { a } } }",
            "[ A -- B ]": "[ B number -- ]",
            "[ A a -- B b ]": "[ B number number -- { a } ]",
            "[ C -- A1 a ]": "[ C -- A1 number ]",
            "[ -- ]": "[ -- ]",
            "[ a -- b ]": "[ number -- { a } ]",
            "[ [ A -- A b ] -- { [ B a -- C ] } ]": "[ [ B number -- B number { a } ] -- { [ number -- C ] } ]",
        }.items():
            self.assertEqual(filled(kind(text), by), kind(told), text)

    def test_kinds_of_stacks(self):
        by = filling(a="number", A="B a { number }", B="b")
        for text, told in {
            "": "",
            "a": "number",
            "A": "B a { number }",
            "A a": "B a { number } number",
            "B a": "b number",
            "C a": "C number",
            "B b [ A -- B ]": "b b [ B a { number } -- b ]",
        }.items():
            self.assertEqual(filled_stack(stack(text), by), stack(told), text)

    def test_a_rest_filled_by_one_without_a_rest(self):
        self.assertEqual(filled_stack(stack("A a"), filling(A="")), stack("a"))
        self.assertEqual(filled_stack(stack("A a"), filling(A="number b")), stack("number b a"))
        self.assertEqual(filled_stack(stack("A"), filling(A="")), NONE)

    def test_no_rest_is_not_filled(self):
        self.assertEqual(filled_stack(stack("a"), filling(A="B number")), stack("a"))

    def test_all_at_once(self):
        by = filling(a="b", b="a", A="B", B="A")
        self.assertEqual(filled(kind("[ A a -- B b ]"), by), kind("[ B b -- A a ]"))
        by = filling(a="{ a }", A="A a")
        self.assertEqual(filled_stack(stack("A a [ A -- ]"), by), stack("A a { a } [ A a -- ]"))

    def test_without_names_nothing_is_filled(self):
        for take, leave in row_kinds_in(42, 100):
            self.assertEqual(filled_stack(take, ()), take)
            self.assertEqual(filled(("row", take, leave), ()), ("row", take, leave))

    def test_very_deep(self):
        deep = kind("{ " * 40 + "a" + " }" * 40)
        made = deep
        for at in range(49):
            made = filled(made, (("a", deep),))
        self.assertEqual(show_kind(("", (made,)), NONE), "{ " * 2000 + "a" + " }" * 2000 + " --")


class Together(unittest.TestCase):

    def test_one_and_then_the_other(self):
        one = filling(a="{ b }", c="[ A -- B ]", A="B b")
        other = filling(a="number", b="{ a }", B="C number", D="")
        self.assertEqual(after(one, other), filling(
            a="{ { a } }", b="{ a }", c="[ A -- C number ]", A="C number { a }", B="C number", D=""))

    def test_with_one_that_has_no_names(self):
        one = filling(a="{ b }", A="B b")
        self.assertEqual(after(one, ()), one)
        self.assertEqual(after((), one), one)
        self.assertEqual(after((), ()), ())

    def test_the_other_ones_pairs_are_not_filled_again(self):
        self.assertEqual(after((), filling(a="{ a }", A="A a")), filling(a="{ a }", A="A a"))
        self.assertEqual(after(filling(a="a"), filling(a="{ a }")), filling(a="{ a }"))

    def test_names_rise(self):
        self.assertEqual(after((("b", NUMBER),), (("A", A), ("a", NUMBER), ("c", NUMBER))),
                         (("A", A), ("a", NUMBER), ("b", NUMBER), ("c", NUMBER)))

    def test_filling_by_it_is_filling_by_one_and_then_by_the_other(self):
        kinds = row_kinds_in(43, 60)
        for one, other in zip(fillings_in(44, 60), fillings_in(45, 60)):
            both = after(one, other)
            self.assertIs(is_filling_form(both), True)
            names = sorted({name for name, part in one + other})
            self.assertEqual([name for name, part in both], names)
            for row_kind in kinds:
                self.assertEqual(filled_row(row_kind, both), filled_row(filled_row(row_kind, one), other))

    def test_put_together_again_and_again(self):
        by = filling(a="{ a }")
        for at in range(11):
            by = after(by, by)
        self.assertEqual(show_kind(("", (by[0][1],)), NONE), "{ " * 2048 + "a" + " }" * 2048 + " --")
        self.assertIs(is_filling_form(by), True)


class FillingTo(unittest.TestCase):

    def told(self, one, other, **parts):
        self.assertEqual(filling_to(read_kind(one), read_kind(other)), filling(**parts), (one, other))

    def none(self, one, other):
        self.assertIsNone(filling_to(read_kind(one), read_kind(other)), (one, other))

    def test_just_the_names_of_one(self):
        self.told("--", "--")
        self.told("number -- { number }", "number -- { number }")
        self.told("A -- A", "A -- A", A="A")
        self.told("A -- A", "B -- B", A="B")
        self.told("A -- B", "A -- A", A="A", B="A")
        self.told("A -- B", "-- number", A="", B="number")
        self.told("A a -- A", "B number { b } -- B number", A="B number", a="{ b }")
        self.told("A a b -- A b a", "B b a -- B a b", A="B", a="b", b="a")
        self.told("A [ A -- B ] -- B", "C a [ C a -- C ] -- C", A="C a", B="C")
        self.told("A a -- A [ B -- B a ]", "number -- [ C number -- C number number ]", A="", a="number", B="C number")
        self.told("{ a } --", "{ [ A -- { a } ] } --", a="[ A -- { a } ]")
        self.told("a -- b", "b -- a", a="b", b="a")

    def test_none(self):
        self.none("A -- A", "A -- B")
        self.none("A -- A", "-- number")
        self.none("A a -- A", "A -- A")
        self.none("A a -- A", "A a -- B")
        self.none("A a a -- A", "A number { number } -- A")
        self.none("--", "A --")
        self.none("--", "number --")
        self.none("--", "-- A")
        self.none("number --", "number number --")
        self.none("number --", "A number --")
        self.none("number number --", "number --")
        self.none("A number -- A", "A a -- A")
        self.none("number --", "a --")
        self.none("number --", "{ number } --")
        self.none("{ a } --", "number --")
        self.none("{ a } --", "[ -- ] --")
        self.none("[ A -- B ] --", "{ a } --")
        self.none("[ -- ] --", "[ A -- ] --")
        self.none("[ -- A ] -- A", "[ -- a ] -- b")
        self.none("A -- a", "A -- B a")
        self.none("{ a } -- a", "{ number } -- { number }")
        self.none("a -- { a }", "a -- a")

    def test_a_name_that_both_have_is_not_the_same_name(self):
        self.told("A a -- A", "A { a } -- A", A="A", a="{ a }")
        self.told("A -- A", "A a -- A a", A="A a")
        self.none("A { a } -- A", "A a -- A")

    def test_a_filling_of_each_is_found(self):
        for row_kind in row_kinds_in(46, 60):
            for by in fillings_in(47, 30):
                made = filled_row(row_kind, by)
                found = filling_to(row_kind, made)
                self.assertEqual([name for name, part in found], sorted(opens_of(*row_kind)))
                self.assertIs(is_filling_form(found), True)
                self.assertEqual(filled_row(row_kind, found), made)
                parts = dict(by)
                for name, part in found:
                    self.assertEqual(part, parts.get(name, (name, ()) if name[0].isupper() else ("open", name)))

    def test_what_is_found_makes_the_one_of_the_other(self):
        kinds = row_kinds_in(48, 120)
        found = 0
        for one in kinds:
            for other in kinds:
                by = filling_to(one, other)
                if by is not None:
                    found += 1
                    self.assertEqual(filled_row(one, by), other)
        self.assertGreater(found, len(kinds))

    def test_each_is_a_filling_of_itself(self):
        for row_kind in row_kinds_in(49, 100):
            for name, part in filling_to(row_kind, row_kind):
                self.assertEqual(part, (name, ()) if name[0].isupper() else ("open", name))

    def test_very_deep(self):
        text = "{ " * 2000 + "a" + " }" * 2000
        deep = read_kind(text + " " + text + " --")
        self.assertEqual(filling_to(deep, deep), filling(a="a"))
        found = filling_to(read_kind("a a --"), deep)
        self.assertEqual(show_kind(("", (found[0][1],)), NONE), text + " --")
        self.assertIsNone(filling_to(read_kind("a a --"), read_kind(text + " " + text.replace("a", "b") + " --")))


class SameKind(unittest.TestCase):

    def tells(self, truth, one, other):
        self.assertIs(same_kind(read_kind(one), read_kind(other)), truth, (one, other))
        self.assertIs(same_kind(read_kind(other), read_kind(one)), truth, (other, one))

    def test_names_that_differ_one_for_one(self):
        self.tells(True, "--", "--")
        self.tells(True, "A -- B", "A -- B")
        self.tells(True, "A -- B", "B -- A")
        self.tells(True, "A a b -- A b a", "Q9 b a -- Q9 a b")
        self.tells(True, "A [ A -- B c ] -- B { c }", "B [ B -- A z1 ] -- A { z1 }")

    def test_two_names_that_were_made_one(self):
        self.tells(False, "A -- B", "A -- A")
        self.tells(False, "A a b -- A", "A a a -- A")
        self.tells(False, "a b -- b a", "a b -- a b")
        self.tells(False, "[ A -- B ] -- B", "[ A -- A ] -- A")

    def test_other_kinds(self):
        self.tells(False, "A -- A", "A number -- A number")
        self.tells(False, "A -- A", "--")
        self.tells(False, "a -- a", "number -- number")
        self.tells(False, "{ a } --", "a --")
        self.tells(False, "number --", "-- number")
        self.tells(False, "[ -- a ] --", "[ a -- ] --")

    def test_same_just_where_each_is_a_filling_of_the_other(self):
        kinds = row_kinds_in(50, 80)
        kinds = kinds + [told_form(*row_kind) for row_kind in kinds]
        for one in kinds:
            for other in kinds:
                both = filling_to(one, other) is not None and filling_to(other, one) is not None
                self.assertIs(same_kind(one, other), both)

    def test_very_deep(self):
        text = "[ A " * 2000 + "a" + " -- B ]" * 2000 + " --"
        self.tells(True, text, text.replace("a", "b").replace("A", "C"))
        self.tells(False, text, text.replace("A", "B"))


class Unchanged(unittest.TestCase):

    def test_nothing_that_is_handed_in_is_changed(self):
        for make in (lambda: [("a", NUMBER), ("b", NUMBER)], lambda: {"a": [NUMBER]}, lambda: (("a", ["number"]),),
                     lambda: (["A", ["B", []]],), lambda: ("row", [1, [2]]), lambda: ("push", ["row", []])):
            for asked in (is_filling_form, is_kind, is_stack_kind, is_row_kind, is_thing, is_word, is_row, is_stack,
                          is_name, is_shuffle):
                handed = make()
                self.assertIs(asked(handed), False)
                self.assertEqual(handed, make())
