"""Listings of versions, as the interface describes them."""

import inspect
import unittest

from partclones.errors import Repeated, Unknown
from partclones.histories.history import History
from partclones.histories.listing import listing
from support import example


class ListingTest(unittest.TestCase):
    def test_without_names(self):
        self.assertEqual(
            listing(example()),
            ["m         4  1   3", "r         1  1   3", "x         2  1   4", "y         2  1   2"],
        )
        self.assertEqual(
            listing(example(), paths=False),
            ["m         4   3", "r         1   3", "x         2   4", "y         2   2"],
        )
        self.assertEqual(listing(History()), [])
        self.assertEqual(listing(History(), paths=False), [])

    def test_names_ascend_whatever_their_order_is(self):
        expected = ["m         4  1   3", "x         2  1   4", "y         2  1   2"]
        self.assertEqual(listing(example(), "y", "m", "x"), expected)
        self.assertEqual(listing(example(), "x", "y", "m", paths=True), expected)
        self.assertEqual(listing(example(), "r"), ["r         1  1   3"])

    def test_all_lines_of_all_paths_are_counted(self):
        history = History()
        history.commit("abc123", [], {"f": ["a"] * 40, "g": ["b"] * 40, "h": [], "i": ["c"] * 22})
        history.commit("e", [], {})
        self.assertEqual(listing(history), ["abc123    1  4 102", "e         1  0   0"])
        self.assertEqual(listing(history, "abc123", paths=False), ["abc123    1 102"])

    def test_numbers_wider_than_their_column(self):
        history = History.of(((("a", (), (), ()), ("b", ("a",), (), ())), ((("a",), 998), (("b",), 123456))))
        self.assertEqual(listing(history), ["a       999  0   0", "b      124456  0   0"])
        self.assertEqual(listing(history, "b", paths=False), ["b      124456   0"])

    def test_names_are_positional_and_paths_is_a_keyword(self):
        kinds = [parameter.kind for parameter in inspect.signature(listing).parameters.values()]
        self.assertEqual(kinds[1:], [inspect.Parameter.VAR_POSITIONAL, inspect.Parameter.KEYWORD_ONLY])

    def test_refused(self):
        for error, names, name in (
            (Unknown, ["x", "q", "x"], "q"),
            (Repeated, ["x", "y", "y", "q"], "y"),
            (Unknown, [""], ""),
        ):
            with self.assertRaises(error) as caught:
                listing(example(), *names)
            self.assertEqual(caught.exception.name, name)

    def test_the_history_stays_as_it_is(self):
        history = example()
        before = history.facts()
        listing(history, "y", "m").clear()
        self.assertEqual(history.facts(), before)


if __name__ == "__main__":
    unittest.main()
