"""The refusals and their fields."""

import unittest

from takeleave import errors

WITH_TEXT = ("NoText", "NoStep", "NoTurn", "NoShuffle", "NoRow", "Twice")
WITH_FIELDS = {
    "NoWord": {"place": (1, 2)},
    "NoKind": {"places": ((0,), (1, 0))},
    "NoBook": {"number": 3, "what": ("word", (0, 1))},
    "TooMany": {"many": 1300, "most": 1200},
    "NoCode": {"place": (4,)},
}


def made_all():
    """One of each refusal, by its name."""
    made = {name: getattr(errors, name)("why") for name in WITH_TEXT}
    for name, fields in WITH_FIELDS.items():
        made[name] = getattr(errors, name)(*fields.values())
    return made


class Refusals(unittest.TestCase):

    def test_there_are_eleven(self):
        self.assertEqual(len(made_all()), 11)

    def test_take_error_is_a_value_error(self):
        self.assertTrue(issubclass(errors.TakeError, ValueError))
        self.assertEqual(errors.TakeError.__bases__, (ValueError,))

    def test_each_is_a_take_error_and_none_of_the_others(self):
        for name, error in made_all().items():
            self.assertIsInstance(error, errors.TakeError, name)
            self.assertIsInstance(error, ValueError, name)
            for other in made_all():
                self.assertEqual(isinstance(error, getattr(errors, other)), other == name, (name, other))

    def test_each_can_be_raised_and_caught_as_take_error(self):
        for name, error in made_all().items():
            with self.assertRaises(errors.TakeError) as caught:
                raise error
            self.assertIs(type(caught.exception), getattr(errors, name))

    def test_fields_are_what_it_was_made_with(self):
        made = made_all()
        for name, fields in WITH_FIELDS.items():
            self.assertEqual(vars(made[name]), fields, name)

    def test_what_may_be_told_alone(self):
        self.assertEqual(errors.NoBook(0, ("told",)).what, ("told",))
        self.assertEqual(errors.NoKind(()).places, ())

    def test_each_says_why_in_a_text(self):
        for name, error in made_all().items():
            self.assertEqual([type(why) for why in error.args], [str], name)

    def test_texts_are_kept(self):
        for name in WITH_TEXT:
            self.assertEqual(str(made_all()[name]), "why", name)
