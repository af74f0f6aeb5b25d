"""Points 5 and 26: gaps, and whether lists of versions are closed."""

import inspect
import itertools
import unittest

from partclones.closed.gaps import first_gap, gaps, is_closed
from partclones.errors import Repeated, Unknown
from support import CRISS_CROSS, TWO_ROOTS, Web, grown_rows, make_order, plain_is_closed, subsets


def plain_gaps(web, names):
    """The gaps of a set, straight from point 26."""
    found = []
    for x in names:
        for y in names:
            if x < y:
                found.extend((x, y, base) for base in web.group_bases([x], [y]) if base not in names)
    return sorted(found)


class GapsTest(unittest.TestCase):
    def test_it_is_a_generator(self):
        self.assertTrue(inspect.isgenerator(gaps(make_order(CRISS_CROSS), ["a"])))

    def test_two_merge_bases(self):
        order = make_order(CRISS_CROSS)
        self.assertEqual(list(gaps(order, ["c", "d"])), [("c", "d", "a"), ("c", "d", "b")])
        self.assertEqual(first_gap(order, ["c", "d"]), ("c", "d", "a"))
        self.assertIs(is_closed(order, ["c", "d"]), False)

    def test_one_of_two_merge_bases(self):
        order = make_order(CRISS_CROSS)
        self.assertEqual(list(gaps(order, ["c", "d", "a"])), [("c", "d", "b")])
        self.assertEqual(list(gaps(order, ["d", "b", "c"])), [("c", "d", "a")])

    def test_the_order_is_that_of_the_tuples_whatever_the_list_is(self):
        order = make_order([*CRISS_CROSS, ("e", ["a"]), ("z", ["r"])])
        expected = [
            *[("c", "d", "a"), ("c", "d", "b"), ("c", "e", "a"), ("c", "z", "r")],
            *[("d", "e", "a"), ("d", "z", "r"), ("e", "z", "r")],
        ]
        for names in itertools.permutations(["c", "d", "e", "z"]):
            self.assertEqual(list(gaps(order, list(names))), expected)
            self.assertEqual(first_gap(order, list(names)), expected[0])

    def test_closed_lists(self):
        order = make_order(CRISS_CROSS)
        for names in ([], ["c"], ["r", "a"], ["d", "r"], ["b", "c", "a", "r", "d"]):
            self.assertEqual(list(gaps(order, names)), [])
            self.assertIsNone(first_gap(order, names))
            self.assertIs(is_closed(order, names), True)

    def test_versions_without_common_versions(self):
        order = make_order(TWO_ROOTS)
        self.assertIs(is_closed(order, ["p", "q"]), True)
        self.assertIs(is_closed(order, ["a", "p"]), True)
        self.assertEqual(list(gaps(order, ["b", "a", "p"])), [("a", "b", "q")])

    def test_all_sets_of_small_orders_against_the_definition(self):
        for rows in (CRISS_CROSS, TWO_ROOTS, grown_rows(8, 3), grown_rows(8, 11)):
            order, web = make_order(rows), Web(rows)
            for names in subsets(order.names()):
                expected = plain_gaps(web, names)
                self.assertEqual(list(gaps(order, names[::-1])), expected)
                self.assertEqual(first_gap(order, names), expected[0] if expected else None)
                self.assertIs(is_closed(order, names), not expected)
                self.assertIs(is_closed(order, names), plain_is_closed(web, names))

    def test_sixty_versions(self):
        for seed in (2, 9):
            rows = grown_rows(60, seed)
            order = make_order(rows)
            self.assertIs(is_closed(order, order.names()), True)
            names = order.names()[::4]
            self.assertEqual(list(gaps(order, names)), plain_gaps(Web(rows), names))

    def test_a_version_that_is_put_later(self):
        order = make_order(CRISS_CROSS)
        names = ["c", "d", "a", "b", "r"]
        self.assertIs(is_closed(order, names), True)
        order.put("e", ["a"])
        self.assertIs(is_closed(order, [*names, "e"]), True)
        self.assertEqual(list(gaps(order, ["e", "c"])), [("c", "e", "a")])


class RefusedTest(unittest.TestCase):
    CASES = (
        (Unknown, ["a", "q", "a"], "q"),
        (Repeated, ["a", "c", "c", "q"], "c"),
        (Unknown, ["q", "q"], "q"),
        (Repeated, ["d", "a", "a", "d"], "a"),
        (Unknown, ["NO"], "NO"),
    )

    def test_the_first_faulty_item_counts(self):
        order = make_order(CRISS_CROSS)
        for error, names, name in self.CASES:
            for call in (first_gap, is_closed):
                with self.assertRaises(error) as caught:
                    call(order, names)
                self.assertEqual(caught.exception.name, name)

    def test_the_generator_raises_when_the_first_result_is_asked_for(self):
        order = make_order(CRISS_CROSS)
        for error, names, name in self.CASES:
            found = gaps(order, names)
            with self.assertRaises(error) as caught:
                next(found)
            self.assertEqual(caught.exception.name, name)


if __name__ == "__main__":
    unittest.main()
