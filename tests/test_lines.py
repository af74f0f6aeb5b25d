"""Point 8: lines and texts."""

import unittest

from partclones.errors import BadText
from partclones.texts.lines import checked_text, is_line

ALLOWED = "abcdefghijklmnopqrstuvwxyz0123456789 <=>|-"


class LinesTest(unittest.TestCase):
    def test_each_sign(self):
        for code in range(32, 127):
            with self.subTest(chr(code)):
                self.assertIs(is_line(chr(code)), chr(code) in ALLOWED)
                self.assertIs(is_line("a" + chr(code) + "b"), chr(code) in ALLOWED)

    def test_lengths(self):
        self.assertIs(is_line(""), True)
        self.assertIs(is_line(" "), True)
        self.assertIs(is_line("a" * 19), True)
        self.assertIs(is_line("a" * 20), True)
        self.assertIs(is_line("a" * 21), False)
        self.assertIs(is_line("<<<<<<<"), True)

    def test_wrong_sign_at_each_place(self):
        for place in range(20):
            self.assertIs(is_line("a" * place + "A" + "a" * (19 - place)), False)


class CheckedTextTest(unittest.TestCase):
    def refused(self, text):
        with self.assertRaises(BadText) as caught:
            checked_text(text)
        return caught.exception.place

    def test_texts(self):
        for text in ([], [""], ["a", "a", ""], ["a" * 20], ["x"] * 39, ["x"] * 40):
            result = checked_text(text)
            self.assertEqual(result, text)
            self.assertIsNot(result, text)
            self.assertIs(type(result), list)

    def test_first_item_that_is_no_line(self):
        self.assertEqual(self.refused(["A"]), 0)
        self.assertEqual(self.refused(["a", "b", "a" * 21, "C"]), 2)
        self.assertEqual(self.refused(["a"] * 39 + ["_"]), 39)

    def test_item_at_place_40(self):
        self.assertEqual(self.refused(["a"] * 41), 40)
        self.assertEqual(self.refused(["a"] * 60), 40)
        self.assertEqual(self.refused(["a"] * 40 + ["A"]), 40)
        self.assertEqual(self.refused(["a"] * 7 + ["A"] + ["a"] * 50), 7)

    def test_result_is_new(self):
        text = ["a", "b"]
        result = checked_text(text)
        text.append("c")
        self.assertEqual(result, ["a", "b"])


if __name__ == "__main__":
    unittest.main()
