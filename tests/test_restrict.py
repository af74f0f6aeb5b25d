"""Point 23: restrictions of orders."""

import itertools
import unittest

from partclones.errors import Repeated, Unknown
from partclones.webs.order import Order
from partclones.webs.restrict import restricted
from support import CRISS_CROSS, grown_rows, make_order


class RestrictTest(unittest.TestCase):
    def check(self, order, names):
        result = restricted(order, names)
        self.assertIs(type(result), Order)
        self.assertIsNot(result, order)
        self.assertEqual(result.names(), sorted(names))
        self.assertEqual(list(result), sorted(names))
        for low in names:
            for high in names:
                self.assertIs(result.is_under(low, high), order.is_under(low, high))
        return result

    def test_all_lists_of_a_small_order(self):
        order = make_order(CRISS_CROSS)
        for size in range(6):
            for names in itertools.permutations(order.names(), size):
                self.check(order, list(names))

    def test_no_versions(self):
        self.assertEqual(restricted(make_order(CRISS_CROSS), []).names(), [])
        self.assertEqual(restricted(Order(), []).names(), [])

    def test_nearest_over_versions_left_out(self):
        result = restricted(make_order(CRISS_CROSS), ["d", "r", "c"])
        self.assertEqual(result.nearest("d"), ["r"])
        self.assertEqual(result.under("c"), ["c", "r"])
        self.assertIs(result.has("a"), False)

    def test_sixty_versions(self):
        order = make_order(grown_rows(60, 5))
        self.check(order, order.names())
        self.check(order, order.names()[::3])
        self.check(order, order.names()[::-2])

    def test_they_go_on_apart(self):
        order = make_order(CRISS_CROSS)
        result = restricted(order, ["a", "r"])
        result.put("b", ["a"])
        order.put("e", ["d"])
        self.assertEqual(result.names(), ["a", "b", "r"])
        self.assertEqual(result.under("b"), ["a", "b", "r"])
        self.assertEqual(order.names(), ["a", "b", "c", "d", "e", "r"])
        self.assertEqual(order.under("b"), ["b", "r"])

    def test_refused(self):
        order = make_order(CRISS_CROSS)
        with self.assertRaises(Unknown) as caught:
            restricted(order, ["a", "q", "a"])
        self.assertEqual(caught.exception.name, "q")
        with self.assertRaises(Repeated) as caught:
            restricted(order, ["a", "r", "r", "q"])
        self.assertEqual(caught.exception.name, "r")


if __name__ == "__main__":
    unittest.main()
