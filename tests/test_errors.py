"""[6]: the classes of refusals and their fields."""

import unittest

from helper import FIELDS, Case, things
from onceroad import errors


class Errors(Case):
    def test_all_fifteen_are_there_and_no_other(self):
        found = [name for name, value in vars(errors).items() if isinstance(value, type)]
        self.assertEqual(sorted(found), sorted(list(FIELDS) + ["OnceError"]))
        self.assertEqual(len(FIELDS), 15)

    def test_each_stands_straight_under_once_error(self):
        self.assertEqual(errors.OnceError.__bases__, (ValueError,))
        for name in FIELDS:
            self.assertEqual(getattr(errors, name).__bases__, (errors.OnceError,), name)

    def test_each_is_made_of_any_thing_and_has_this_very_thing(self):
        for name, field in FIELDS.items():
            for thing in things():
                if field is not None:
                    self.assertIs(getattr(getattr(errors, name)(thing), field), thing, name)

    def test_the_field_is_the_one_argument(self):
        for name, field in FIELDS.items():
            if field is not None:
                thing = ["a"]
                self.assertIs(getattr(getattr(errors, name)(**{field: thing}), field), thing)

    def test_no_back_is_made_of_nothing(self):
        self.assertIsInstance(errors.NoBack(), errors.OnceError)
        self.assertRaises(TypeError, errors.NoBack, 1)

    def test_once_error_is_made_of_a_text(self):
        self.assertIsInstance(errors.OnceError("a text"), ValueError)
        with self.assertRaises(ValueError):
            raise errors.OnceError("a text")

    def test_each_is_caught_as_itself_and_as_no_other(self):
        for name, field in FIELDS.items():
            made = getattr(errors, name)() if field is None else getattr(errors, name)("a")
            for other in FIELDS:
                self.assertEqual(isinstance(made, getattr(errors, other)), name == other)


if __name__ == "__main__":
    unittest.main()
