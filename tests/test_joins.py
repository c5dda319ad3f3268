"""Kinds that go together, and the most open filling that makes them the same."""

import random
import unittest

from takeleave.fillings import filled, is_filling_form, filling_to, rising
from takeleave.joins import joined
from takeleave.kinds import opens_of
from takeleave.kindtexts import read_kind, show_kind
from tests.oracle import solved
from tests.samples import filled_row, filling, row_kinds_in, stack_kind_by


def names_of(*row_kinds):
    return {name for row_kind in row_kinds for name in opens_of(*row_kind)}


def is_made_further(found, other, names):
    """Whether another filling is made of a found one, for these names, by filling further."""
    all_names = ("row", ("", tuple([("open", name) for name in sorted(names) if name[0].islower()])),
                 ("", tuple([("row", (name, ()), ("", ())) for name in sorted(names) if name[0].isupper()])))
    return filling_to(filled(all_names, found)[1:], filled(all_names, other)[1:]) is not None


class Joins(unittest.TestCase):

    def told(self, one, other, **parts):
        """The two go together, and the found filling is this one but for names."""
        one, other = read_kind(one), read_kind(other)
        wanted = filling(**parts)
        self.assertEqual(filled_row(one, wanted), filled_row(other, wanted))
        for found in (joined(one, other), joined(other, one)):
            self.holds(found, one, other)
            self.assertTrue(is_made_further(found, wanted, names_of(one, other)), found)
            self.assertTrue(is_made_further(wanted, found, names_of(one, other)), found)

    def holds(self, found, one, other):
        self.assertIs(is_filling_form(found), True)
        self.assertEqual(filled_row(one, found), filled_row(other, found))
        names = names_of(one, other)
        self.assertLessEqual({name for name, part in found}, names)
        for name, part in found:
            written = (part, ("", ())) if name[0].isupper() else (("", (part,)), ("", ()))
            self.assertLessEqual(names_of(written), names)

    def none(self, one, other):
        self.assertIsNone(joined(read_kind(one), read_kind(other)), (one, other))
        self.assertIsNone(joined(read_kind(other), read_kind(one)), (other, one))

    def test_a_kind_and_itself(self):
        for text in ("--", "A -- A", "number -- { number }", "A a [ A -- B ] -- B a"):
            self.assertEqual(joined(read_kind(text), read_kind(text)), ())
        for row_kind in row_kinds_in(61, 100):
            self.assertEqual(filled_row(row_kind, joined(row_kind, row_kind)), row_kind)

    def test_the_same_names_in_both(self):
        self.told("A a -- A", "A number -- A", a="number")
        self.told("a b --", "b a --", a="b")
        self.told("A -- B", "B -- A", A="B")
        self.told("a b -- b", "number a -- b", a="number", b="number")
        self.none("a { a } --", "{ b } b --")
        self.told("a b c --", "b c { number } --", a="{ number }", b="{ number }", c="{ number }")

    def test_rests_of_like_length(self):
        self.told("A number -- A", "B a -- B", A="B", a="number")
        self.told("A a -- A b", "B number -- B { number }", A="B", a="number", b="{ number }")
        self.told("A -- B", "C -- C", A="C", B="C")

    def test_rests_of_unlike_length(self):
        self.told("A -- A", "B number a -- C", A="B number a", C="B number a")
        self.told("A a -- A", "B number { b } -- C b", A="B number", a="{ number }", C="B", b="number")
        self.told("A a -- B", "C -- C b", C="A a", B="A a b")
        self.none("A number -- A", "B -- B number")

    def test_a_rest_and_none(self):
        self.told("A -- A", "--", A="")
        self.told("A a -- A", "number number -- number", A="number", a="number")
        self.told("A a b -- B", "number { number } -- C", A="", a="number", b="{ number }", B="C")
        self.none("A a b --", "number --")
        self.none("--", "A number --")
        self.none("number --", "--")
        self.none("number number --", "number --")
        self.none("A -- A number", "-- A")

    def test_an_open_thing(self):
        self.told("a --", "number --", a="number")
        self.told("a --", "{ { b } } --", a="{ { b } }")
        self.told("a --", "[ A b -- [ -- B ] ] --", a="[ A b -- [ -- B ] ]")
        self.told("{ a } --", "{ [ A -- A ] } --", a="[ A -- A ]")

    def test_sorts_that_differ(self):
        self.none("number --", "{ a } --")
        self.none("number --", "[ A -- B ] --")
        self.none("{ a } --", "[ A -- B ] --")
        self.none("{ number } --", "{ { a } } --")
        self.none("[ -- number ] --", "[ -- { a } ] --")
        self.none("[ number -- ] --", "[ { a } -- ] --")
        self.none("-- number", "-- { a }")

    def test_a_name_in_several_places(self):
        self.told("a a a --", "b { c } { number } --", a="{ number }", b="{ number }", c="number")
        self.told("A [ A -- A ] -- A", "B number [ C -- D a ] -- E", A="B number", C="B number", D="B", a="number",
                  E="B number")
        self.none("a a --", "number { b } --")
        self.none("A [ A -- ] --", "number [ -- ] --")
        self.none("[ A -- A ] --", "[ -- number ] --")

    def test_one_that_stands_in_itself(self):
        self.none("a --", "{ a } --")
        self.none("a --", "[ A -- A a ] --")
        self.none("a a --", "b { b } --")
        self.none("A --", "A number --")
        self.none("A [ A -- B ] -- B", "C a -- C a")
        self.none("A -- A", "B -- B number")
        self.none("A --", "B [ A -- ] --")
        self.none("A --", "[ [ -- A ] -- ] --")

    def test_one_that_stands_in_itself_by_way_of_others(self):
        self.none("a b --", "{ b } { a } --")
        self.none("a b c --", "{ b } { c } [ -- a ] --")
        self.none("[ A -- B ] --", "[ B number -- A ] --")
        self.none("[ A -- B ] a --", "[ C [ B -- ] -- D a ] [ A -- C ] --")
        self.told("[ A -- B ] --", "[ B number -- C ] --", A="C number", B="C")

    def test_long_chains(self):
        many = 300
        one = " ".join([f"a{at}" for at in range(1, many)])
        other = " ".join(["{ " + f"a{at + 1}" + " }" for at in range(1, many)])
        found = joined(read_kind(one + " --"), read_kind(other + " --"))
        self.assertEqual(len(found), many - 1)
        self.assertEqual(show_kind(("", (dict(found)["a1"],)), ("", ())),
                         "{ " * (many - 1) + f"a{many}" + " }" * (many - 1) + " --")
        self.none(one + " --", other.replace(f"a{many}", "a1") + " --")

    def test_kinds_that_are_far_greater_written_out(self):
        many = 200
        one = " ".join([f"a{at}" for at in range(1, many)])
        other = " ".join(["[ -- " + f"a{at + 1} a{at + 1}" + " ]" for at in range(1, many)])
        self.assertEqual(len(joined(read_kind(one + " --"), read_kind(other + " --"))), many - 1)
        self.none(one + " --", other.replace(f"a{many}", "a7") + " --")

    def test_found_ones_handed_in_again(self):
        kinds = row_kinds_in(62, 40)
        for one, other in zip(kinds, kinds[1:]):
            found = joined(one, other)
            if found is not None:
                made = filled_row(one, found)
                self.assertEqual(joined(made, filled_row(other, found)), ())
                by = joined(made, one)
                if by is not None:
                    self.holds(by, made, one)

    def test_just_where_a_plain_search_finds_one_and_as_open(self):
        kinds = row_kinds_in(63, 100)
        together = 0
        for one in kinds:
            for other in kinds:
                found = joined(one, other)
                plain = solved([(one[0], other[0]), (one[1], other[1])])
                self.assertEqual(found is None, plain is None, (show_kind(*one), show_kind(*other)))
                if found is not None:
                    together += 1
                    self.holds(found, one, other)
                    self.assertTrue(is_made_further(found, rising(plain), names_of(one, other)))
        self.assertGreater(together, 500)

    def test_any_other_filling_is_made_of_it(self):
        chance = random.Random(64)
        for at in range(300):
            whole = (stack_kind_by(chance, 3), stack_kind_by(chance, 3))
            parts = {}
            one = hollowed_stack(chance, whole[0], parts), hollowed_stack(chance, whole[1], parts)
            other = hollowed_stack(chance, whole[0], parts), hollowed_stack(chance, whole[1], parts)
            by = rising({**parts, **kept_names(whole)})
            self.assertEqual(filled_row(one, by), whole)
            self.assertEqual(filled_row(other, by), whole)
            found = joined(one, other)
            self.assertIsNotNone(found)
            self.holds(found, one, other)
            self.assertTrue(is_made_further(found, by, names_of(one, other)))

    def test_nothing_that_is_handed_in_is_changed(self):
        for one, other in zip(row_kinds_in(65, 50), row_kinds_in(66, 50)):
            before = repr((one, other))
            joined(one, other)
            self.assertEqual(repr((one, other)), before)


def kept_names(row_kind):
    """The filling, as a dict, in which the names of a row's kind stay."""
    return {name: ("open", name) if name[0].islower() else (name, ()) for name in opens_of(*row_kind)}


def hollowed_stack(chance, stack_kind, parts):
    """A kind of stacks with new open names here and there; what they stand for is put to the parts."""
    rest, kinds = stack_kind
    cut = chance.randrange(len(kinds) + 1) if chance.randrange(3) == 0 else 0
    if cut or chance.randrange(6) == 0:
        name = named(chance, "XYWV", parts, (rest, kinds[:cut]))
        rest, kinds = name, kinds[cut:]
    return rest, tuple([hollowed(chance, kind, parts) for kind in kinds])


def hollowed(chance, kind, parts):
    if chance.randrange(4) == 0:
        return ("open", named(chance, "xywv", parts, kind))
    if kind[0] == "list":
        return ("list", hollowed(chance, kind[1], parts))
    if kind[0] == "row":
        return ("row", hollowed_stack(chance, kind[1], parts), hollowed_stack(chance, kind[2], parts))
    return kind


def named(chance, letters, parts, part):
    """A name for a part: one that stands for the same already, at times, or else a new one."""
    same = [name for name in parts if name[0] in letters and parts[name] == part]
    if same and chance.randrange(2):
        return chance.choice(same)
    name = chance.choice(letters) + str(len(parts) + 1)
    parts[name] = part
    return name
