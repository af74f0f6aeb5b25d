"""Point 14: paths and folders."""

import unittest

from partclones.trees.paths import below, is_path


class PathsTest(unittest.TestCase):
    def test_paths(self):
        for path in ("a", "0", "abc123", "z9", "a/b", "a/b/c", "abcdef/ghijkl/mnopqr", "1/2/3"):
            self.assertIs(is_path(path), True, path)

    def test_number_of_words(self):
        self.assertIs(is_path("a/b/c"), True)
        self.assertIs(is_path("a/b/c/d"), False)

    def test_lengths_of_words(self):
        for before, after in (("", ""), ("x/", ""), ("", "/x"), ("x/", "/x"), ("x/x/", "")):
            for length in range(9):
                path = before + "w" * length + after
                self.assertIs(is_path(path), 1 <= length <= 6, path)

    def test_wrong_strings(self):
        for path in ("", "/", "a/", "/a", "a//b", "A", "aB", "a b", "a-b", "a.b", "a/b!", "a\\b", " a", "a ", "_"):
            self.assertIs(is_path(path), False, path)

    def test_each_sign(self):
        for code in range(32, 127):
            sign = chr(code)
            allowed = sign in "abcdefghijklmnopqrstuvwxyz0123456789"
            self.assertIs(is_path(sign), allowed, sign)
            self.assertIs(is_path("ab" + sign + "c"), allowed or sign == "/", sign)


class BelowTest(unittest.TestCase):
    def test_at_or_below(self):
        self.assertIs(below("a", "a"), True)
        self.assertIs(below("a/b", "a"), True)
        self.assertIs(below("a/b/c", "a"), True)
        self.assertIs(below("a/b/c", "a/b"), True)
        self.assertIs(below("a/b/c", "a/b/c"), True)

    def test_not_below(self):
        self.assertIs(below("a", "a/b"), False)
        self.assertIs(below("b/a", "a"), False)
        self.assertIs(below("b", "a"), False)
        self.assertIs(below("a/c", "a/b"), False)

    def test_only_begins_like_the_folder(self):
        self.assertIs(below("ab", "a"), False)
        self.assertIs(below("ab/c", "a"), False)
        self.assertIs(below("a/bc", "a/b"), False)
        self.assertIs(below("a0", "a"), False)


if __name__ == "__main__":
    unittest.main()
