"""[10]: whole numbers and names."""

import unittest

from helper import Case, things
from onceroad.names import is_name, is_whole, is_within


class Whole(Case):
    def test_whole_numbers(self):
        for number in (0, 1, -1, 14, 10 ** 39, -(10 ** 39)):
            self.is_true(is_whole(number))

    def test_true_and_false_are_none(self):
        self.is_false(is_whole(True))
        self.is_false(is_whole(False))
        self.is_false(is_within(True, 0, 5))
        self.is_false(is_within(False, -1, 1))

    def test_within_has_both_its_ends(self):
        self.is_true(is_within(0, 0, 3))
        self.is_true(is_within(3, 0, 3))
        self.is_true(is_within(2, 0, 3))
        self.is_true(is_within(-2, -2, -2))
        self.is_false(is_within(-1, 0, 3))
        self.is_false(is_within(4, 0, 3))
        self.is_false(is_within(1, 2, 0))

    def test_of_any_thing(self):
        for thing in things():
            whole = isinstance(thing, int) and thing is not True and thing is not False
            self.assertIs(is_whole(thing), whole)
            self.assertIs(is_within(thing, 0, 5), whole and thing in (0, 1))
            self.assertIs(is_within(thing, -(10 ** 39), 10 ** 39), whole)


class Names(Case):
    def test_names_of_one_to_six_small_letters(self):
        for name in ("a", "z", "ab", "abcdef", "zzzzzz", "mmmm"):
            self.is_true(is_name(name))

    def test_what_is_no_name(self):
        for text in ("", "abcdefg", "A", "aB", "a1", "1", "a b", " a", "a ", "a\n", "`", "{", "a{", "a_b", "-"):
            self.is_false(is_name(text))

    def test_letters_of_other_writings_are_none(self):
        for text in ("\u00e9", "\u00df", "a\u0430", "\uff41"):
            self.is_false(is_name(text))

    def test_of_any_thing(self):
        for thing in things():
            self.is_false(is_name(thing))
        self.is_false(is_name(["a"]))
        self.is_false(is_name(("a",)))
        self.is_false(is_name({"a": "b"}))


if __name__ == "__main__":
    unittest.main()
