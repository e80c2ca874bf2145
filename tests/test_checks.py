import unittest

from loosemirrors.checks import is_name, is_whole
from loosemirrors.ratios import Ratio
from tests.samples import LONG, all_values, no_strings


class Whole(unittest.TestCase):
    def test_integers(self):
        for value in (0, 1, -1, 24, LONG, -LONG):
            self.assertIs(is_whole(value), True)

    def test_bools_are_none(self):
        self.assertIs(is_whole(True), False)
        self.assertIs(is_whole(False), False)

    def test_nothing_else_is(self):
        for value in all_values():
            with self.subTest(value=value):
                self.assertIs(is_whole(value), type(value) is int)
        self.assertIs(is_whole(Ratio(3)), False)


class Names(unittest.TestCase):
    def test_one_to_eight_letters(self):
        for value in ("a", "z", "az", "mirror", "through", "abcdefgh", "zzzzzzzz"):
            with self.subTest(value=value):
                self.assertIs(is_name(value), True)

    def test_other_strings(self):
        for value in ("", "abcdefghi", "A", "aB", "a1", "1", "a b", " a", "a ", "a\n", "\n", "a-b", "a_b", "a.", "`", "{"):
            with self.subTest(value=value):
                self.assertIs(is_name(value), False)

    def test_letters_beyond_ascii(self):
        for value in ("\u00e4", "\u00df", "\u03b1", "a\u0301", "\u00aa"):
            with self.subTest(value=value):
                self.assertIs(is_name(value), False)

    def test_what_is_no_string(self):
        for value in no_strings():
            with self.subTest(value=value):
                self.assertIs(is_name(value), False)


if __name__ == "__main__":
    unittest.main()
