"""Point 29: derivations."""

import itertools
import unittest

from partclones.closed.closure import closure
from partclones.closed.steps import derivation, takes_steps
from partclones.errors import Repeated, Unknown
from support import CRISS_CROSS, TWO_ROOTS, Web, grown_rows, make_order, subsets


def plain_takes(web, names, steps):
    """Whether steps are a derivation, straight from point 29."""
    for at, (b, x, y) in enumerate(steps):
        there = {*names, *(first for first, _, _ in steps[:at])}
        if x == y or not {x, y} <= there or b in there or b not in web.group_bases([x], [y]):
            return False
    return True


class StepsTest(unittest.TestCase):
    def setUp(self):
        self.order = make_order(CRISS_CROSS)

    def takes(self, names, *steps):
        found = takes_steps(self.order, names, list(steps))
        self.assertIsInstance(found, bool)
        return found

    def test_a_derivation(self):
        self.assertTrue(self.takes(["c", "d"], ("a", "c", "d"), ("b", "d", "c"), ("r", "a", "b")))
        self.assertTrue(self.takes(["d", "c"], ("b", "c", "d"), ("a", "c", "d"), ("r", "b", "a")))

    def test_it_need_not_reach_the_whole_closure(self):
        self.assertTrue(self.takes(["c", "d"], ("b", "c", "d")))
        self.assertTrue(self.takes(["c", "d"]))
        self.assertTrue(self.takes([]))

    def test_x_and_y_are_different(self):
        self.assertFalse(self.takes(["c"], ("c", "c", "c")))
        self.assertFalse(self.takes(["c", "d"], ("a", "c", "c")))
        self.assertFalse(self.takes(["c", "d"], ("a", "c", "d"), ("r", "a", "a")))

    def test_x_and_y_are_there_already(self):
        self.assertFalse(self.takes(["a"], ("r", "a", "b")))
        self.assertFalse(self.takes(["a"], ("r", "b", "a")))
        self.assertFalse(self.takes(["c", "d"], ("r", "a", "b"), ("a", "c", "d"), ("b", "c", "d")))
        self.assertFalse(self.takes(["c", "d"], ("a", "c", "d"), ("r", "a", "b"), ("b", "c", "d")))

    def test_the_first_part_is_a_merge_base(self):
        self.assertFalse(self.takes(["c", "d"], ("r", "c", "d")))
        self.assertFalse(self.takes(["a", "b"], ("c", "a", "b")))

    def test_the_first_part_is_no_member(self):
        self.assertFalse(self.takes(["c", "d", "a"], ("a", "c", "d")))
        self.assertTrue(self.takes(["c", "d", "a"], ("b", "c", "d")))
        self.assertFalse(self.takes(["a", "c"], ("a", "a", "c")))

    def test_no_first_part_comes_a_second_time(self):
        self.assertFalse(self.takes(["c", "d"], ("a", "c", "d"), ("a", "c", "d")))
        self.assertFalse(self.takes(["c", "d"], ("a", "c", "d"), ("b", "c", "d"), ("a", "d", "c")))

    def test_strings_that_are_no_names(self):
        self.assertFalse(self.takes(["c", "d"], ("q", "c", "d")))
        self.assertFalse(self.takes(["c", "d"], ("a", "q", "d")))
        self.assertFalse(self.takes(["c", "d"], ("a", "c", "q")))
        self.assertFalse(self.takes(["c", "d"], ("", "NO", "far too long")))
        self.assertFalse(self.takes([], ("q", "x", "y")))

    def test_all_pairs_of_steps_against_the_definition(self):
        web = Web(CRISS_CROSS)
        steps = list(itertools.product("abcdr", repeat=3))
        for names in (["c", "d"], ["a", "c", "d"], ["a", "b"]):
            good = [step for step in steps if self.takes(names, step)]
            self.assertEqual(good, [step for step in steps if plain_takes(web, names, [step])])
            for first in [*good, ("c", "c", "d")]:
                for second in steps:
                    self.assertEqual(
                        self.takes(names, first, second), plain_takes(web, names, [first, second])
                    )

    def test_derivation_gives_the_whole_closure(self):
        for rows in (CRISS_CROSS, TWO_ROOTS, grown_rows(8, 3)):
            order, web = make_order(rows), Web(rows)
            for names in subsets(order.names()):
                names = names[::-1]
                steps = derivation(order, names)
                self.assertIs(type(steps), list)
                self.assertTrue(all(type(step) is tuple and len(step) == 3 for step in steps))
                outside = [name for name in closure(order, names) if name not in names]
                self.assertEqual(sorted(first for first, _, _ in steps), outside)
                self.assertTrue(plain_takes(web, names, steps))
                self.assertIs(takes_steps(order, names, steps), True)

    def test_derivation_of_sixty_versions(self):
        for seed in range(4):
            order = make_order(grown_rows(60, seed))
            names = order.names()[::7]
            steps = derivation(order, names)
            self.assertEqual(sorted([*names, *(first for first, _, _ in steps)]), closure(order, names))
            self.assertIs(takes_steps(order, names, steps), True)

    def test_derivation_of_a_closed_list(self):
        self.assertEqual(derivation(self.order, []), [])
        self.assertEqual(derivation(self.order, ["a", "r"]), [])

    def test_refused(self):
        for error, names, name in (
            (Unknown, ["c", "q", "c"], "q"),
            (Repeated, ["c", "d", "d", "q"], "d"),
        ):
            with self.assertRaises(error) as caught:
                derivation(self.order, names)
            self.assertEqual(caught.exception.name, name)
            with self.assertRaises(error) as caught:
                takes_steps(self.order, names, [("q", "q", "q")])
            self.assertEqual(caught.exception.name, name)


if __name__ == "__main__":
    unittest.main()
