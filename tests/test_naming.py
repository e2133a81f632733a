"""Points 3 and 13: names."""

import unittest

from openshares.naming import valid_name

LETTERS = "abcdefghijklmnopqrstuvwxyz"
DIGITS = "0123456789"
PASSED = [chr(code) for code in range(32, 127) if chr(code) != "%"] + ["\n"]


class Point13(unittest.TestCase):
    def assert_name(self, text, expected):
        self.assertIs(valid_name(text), expected, repr(text))

    def test_the_example(self):
        found = [valid_name("ann"), valid_name("a1"), valid_name("1a"), valid_name("Ann"), valid_name("anthony")]
        self.assertEqual(found, [True, True, False, False, False])

    def test_lengths(self):
        for text, expected in [
            ("", False), ("a", True), ("ab", True), ("abcde", True), ("abcdef", True), ("abcdefg", False),
            ("a12345", True), ("a123456", False), ("a" * 100, False),
        ]:
            self.assert_name(text, expected)

    def test_each_first_character(self):
        for char in PASSED:
            self.assert_name(char, char in LETTERS)
            self.assert_name(char + "a", char in LETTERS)

    def test_each_later_character(self):
        for char in PASSED:
            for text in ("a" + char, "a" + char + "b", "abcde" + char):
                self.assert_name(text, char in LETTERS + DIGITS)

    def test_characters_beside_the_bounds(self):
        for text in ("`", "{", "a`", "a{", "a/", "a:", "a@", "A", "Z", "aZ", "0", "9", "a_", "a-", "a.", " a", "a "):
            self.assert_name(text, False)
        for text in ("a", "z", "a0", "a9", "z0", "z9", "az", "zzzzzz", "z99999"):
            self.assert_name(text, True)

    def test_newlines_are_not_overlooked(self):
        for text in ("\n", "a\n", "\na", "abcde\n", "abcdef\n", "a\nb"):
            self.assert_name(text, False)

    def test_a_run_of_letters_is_not_taken_for_a_letter(self):
        for text, expected in [("abc", True), ("a01", True), ("01", False), ("", False), ("0123", False)]:
            self.assert_name(text, expected)

    def test_the_argument_by_its_name(self):
        self.assertIs(valid_name(text="ann"), True)
        self.assertIs(valid_name(text=""), False)


if __name__ == "__main__":
    unittest.main()
