"""Points 5 and 24: base lists."""

import inspect
import unittest

from partclones.errors import Repeated, Unknown
from partclones.webs.baselists import base_lists
from support import CRISS_CROSS, Web, grown_rows, make_order

# Each pair of versions is merged criss-cross on top of the pair before it.
LADDER = [*CRISS_CROSS, ("e", ["c", "d"]), ("f", ["c", "d"]), ("g", ["e", "f"]), ("h", ["f", "e"])]


class BaseListsTest(unittest.TestCase):
    def lists(self, rows, ones, others):
        return list(base_lists(make_order(rows), ones, others))

    def test_it_is_a_generator(self):
        self.assertTrue(inspect.isgenerator(base_lists(make_order(CRISS_CROSS), ["a"], ["b"])))

    def test_one_member(self):
        self.assertEqual(self.lists(CRISS_CROSS, ["a"], ["b"]), [["r"]])
        self.assertEqual(self.lists(CRISS_CROSS, ["c"], ["c"]), [["c"]])

    def test_several_steps(self):
        self.assertEqual(self.lists(CRISS_CROSS, ["c"], ["d"]), [["a", "b"], ["r"]])
        self.assertEqual(
            self.lists(LADDER, ["h"], ["g"]), [["e", "f"], ["c", "d"], ["a", "b"], ["r"]]
        )

    def test_empty_first_list(self):
        self.assertEqual(self.lists([("a", []), ("b", [])], ["a"], ["b"]), [[]])
        self.assertEqual(self.lists(CRISS_CROSS, [], ["a"]), [[]])
        self.assertEqual(self.lists(CRISS_CROSS, [], []), [[]])
        self.assertEqual(self.lists([], [], []), [[]])

    def test_empty_later_list(self):
        rows = [("a", []), ("b", []), ("c", ["a", "b"]), ("d", ["b", "a"])]
        self.assertEqual(self.lists(rows, ["c"], ["d"]), [["a", "b"], []])

    def test_under_at_least_two_members(self):
        rows = [
            *[("p", []), ("q", []), ("x", ["p"]), ("y", ["p", "q"]), ("z", ["q"])],
            *[("m", ["x", "y", "z"]), ("n", ["z", "y", "x"])],
        ]
        self.assertEqual(self.lists(rows, ["m"], ["n"]), [["x", "y", "z"], ["p", "q"], []])

    def test_a_later_list_has_only_maximal_versions(self):
        rows = [("r", []), ("s", ["r"]), ("x", ["s"]), ("y", ["s"]), ("m", ["x", "y"]), ("n", ["x", "y"])]
        self.assertEqual(self.lists(rows, ["m"], ["n"]), [["x", "y"], ["s"]])

    def test_groups_of_several_versions(self):
        self.assertEqual(self.lists(LADDER, ["h", "g"], ["g", "h"]), [
            ["g", "h"], ["e", "f"], ["c", "d"], ["a", "b"], ["r"],
        ])

    def test_against_the_definition(self):
        for seed in range(12):
            rows = grown_rows(25, seed)
            order, web = make_order(rows), Web(rows)
            names = order.names()
            for at in range(25):
                ones, others = [names[at]], [names[at * 7 % 25], names[(at * 7 + 3) % 25]]
                self.assertEqual(list(base_lists(order, ones, others)), web.base_lists(ones, others))

    def test_errors_come_with_the_first_result(self):
        order = make_order(CRISS_CROSS)
        cases = (
            (Unknown, ["a", "q"], ["o"], "q"),
            (Repeated, ["a", "a"], ["o"], "a"),
            (Unknown, ["a"], ["b", "o", "b"], "o"),
            (Repeated, [], ["b", "b"], "b"),
        )
        for error, ones, others, name in cases:
            found = base_lists(order, ones, others)
            with self.assertRaises(error) as caught:
                next(found)
            self.assertEqual(caught.exception.name, name)

    def test_changing_a_yielded_list_has_no_effect(self):
        found = []
        for names in base_lists(make_order(LADDER), ["h"], ["g"]):
            found.append(list(names))
            names.clear()
        self.assertEqual(found, [["e", "f"], ["c", "d"], ["a", "b"], ["r"]])


if __name__ == "__main__":
    unittest.main()
