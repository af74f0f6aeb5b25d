"""Point 25: base trees."""

import unittest

from partclones.errors import Repeated, Unknown
from partclones.trees.choose import chosen_tree
from partclones.webs.basetree import base_tree
from support import CRISS_CROSS, Web, grown_rows, make_order

TREES = {
    "r": {"f": ["1"], "g": ["1"], "h": ["1"]},
    "a": {"f": ["2"], "g": ["2"], "h": ["1"], "z": ["new"]},
    "b": {"f": ["1"], "g": ["3"], "b": ["new"]},
    "c": {"c": ["c"]},
    "d": {"d": ["d"]},
}


class BaseTreeTest(unittest.TestCase):
    def test_empty_base_list(self):
        order = make_order([("a", []), ("b", [])])
        self.assertEqual(base_tree(order, TREES, ["a"], ["b"]), {})
        self.assertEqual(base_tree(order, TREES, [], ["b"]), {})
        self.assertEqual(base_tree(order, TREES, [], []), {})

    def test_one_member(self):
        order = make_order(CRISS_CROSS)
        self.assertEqual(base_tree(order, TREES, ["a"], ["b"]), TREES["r"])
        self.assertEqual(base_tree(order, TREES, ["c"], ["c"]), TREES["c"])
        self.assertEqual(base_tree(order, TREES, ["c", "a"], ["a"]), TREES["a"])

    def test_paths_ascend_and_texts_are_new(self):
        order = make_order(CRISS_CROSS)
        trees = {**TREES, "r": {"z": ["1"], "f": []}}
        result = base_tree(order, trees, ["a"], ["b"])
        self.assertEqual(list(result), ["f", "z"])
        self.assertIsNot(result["z"], trees["r"]["z"])
        self.assertIsNot(result, trees["r"])

    def test_chosen_over_the_next_list(self):
        order = make_order(CRISS_CROSS)
        result = base_tree(order, TREES, ["c"], ["d"])
        self.assertEqual(result, {"b": ["new"], "f": ["2"], "g": ["1"], "z": ["new"]})
        self.assertEqual(list(result), ["b", "f", "g", "z"])

    def test_chosen_over_an_empty_next_list(self):
        order = make_order([("a", []), ("b", []), ("c", ["a", "b"]), ("d", ["b", "a"])])
        trees = {"a": {"f": ["1"], "g": ["2"], "h": ["3"]}, "b": {"f": ["1"], "g": ["4"]}, "c": {}, "d": {}}
        self.assertEqual(base_tree(order, trees, ["c"], ["d"]), {"f": ["1"], "h": ["3"]})

    def test_several_steps(self):
        order = make_order([*CRISS_CROSS, ("e", ["c", "d"]), ("g", ["d", "c"])])
        trees = {
            "r": {"f": ["0"], "k": ["0"], "m": ["0"]},
            "a": {"f": ["1"], "k": ["0"], "m": ["5"]},
            "b": {"f": ["0"], "k": ["2"], "m": ["6"]},
            "c": {"f": ["7"], "k": ["2"], "m": ["8"]},
            "d": {"f": ["9"], "k": ["3"], "m": ["0"]},
            "e": {},
            "g": {},
        }
        # The tree of the second list is {"f": ["1"], "k": ["2"], "m": ["0"]}.
        self.assertEqual(base_tree(order, trees, ["e"], ["g"]), {"f": ["1"], "k": ["3"], "m": ["8"]})

    def test_more_than_eight_paths(self):
        order = make_order([("a", []), ("b", []), ("c", ["a", "b"]), ("d", ["a", "b"])])
        trees = {
            "a": {f"p{number}": ["a"] for number in range(8)},
            "b": {f"q{number}": ["b"] for number in range(8)},
            "c": {},
            "d": {},
        }
        self.assertEqual(base_tree(order, trees, ["c"], ["d"]), {**trees["a"], **trees["b"]})

    def test_against_the_definition(self):
        for seed in range(8):
            rows = grown_rows(20, seed)
            order, web = make_order(rows), Web(rows)
            names = order.names()
            trees = {}
            for number, (name, _) in enumerate(rows):
                trees[name] = {path: [str(number * step % 4)] for path, step in (("f", 1), ("g", 3)) if number % 5}
            for one in names:
                for other in names:
                    expected = {}
                    lists = web.base_lists([one], [other])
                    for members in reversed(lists):
                        if len(members) == 1:
                            expected = trees[members[0]]
                        elif members:
                            expected = chosen_tree(expected, [trees[name] for name in members])
                    self.assertEqual(base_tree(order, trees, [one], [other]), expected)

    def test_refused(self):
        order = make_order(CRISS_CROSS)
        cases = (
            (Unknown, ["a", "q"], ["o"], "q"),
            (Repeated, ["a", "a"], ["o"], "a"),
            (Unknown, ["a"], ["b", "o", "b"], "o"),
            (Repeated, [], ["b", "b"], "b"),
        )
        for error, ones, others, name in cases:
            with self.assertRaises(error) as caught:
                base_tree(order, TREES, ones, others)
            self.assertEqual(caught.exception.name, name)


if __name__ == "__main__":
    unittest.main()
