"""Point 7: names."""

import unittest

from partclones.webs.names import is_name

LETTERS = "abcdefghijklmnopqrstuvwxyz"


class NamesTest(unittest.TestCase):
    def test_lengths(self):
        for length in range(9):
            self.assertIs(is_name("a" * length), 1 <= length <= 6, length)

    def test_first_sign(self):
        for code in range(32, 127):
            self.assertIs(is_name(chr(code)), chr(code) in LETTERS, chr(code))
            self.assertIs(is_name(chr(code) + "1b"), chr(code) in LETTERS, chr(code))

    def test_other_signs(self):
        for code in range(32, 127):
            allowed = chr(code) in LETTERS + "0123456789"
            self.assertIs(is_name("a" + chr(code)), allowed, chr(code))
            self.assertIs(is_name("abcde" + chr(code)), allowed, chr(code))

    def test_names(self):
        for name in ("a", "z", "a1", "main", "x00000", "abcdef"):
            self.assertIs(is_name(name), True, name)
        for name in ("", "1", "1a", "A", "a b", "a-b", "a/b", "abcdefg", " a", "a "):
            self.assertIs(is_name(name), False, name)


if __name__ == "__main__":
    unittest.main()
