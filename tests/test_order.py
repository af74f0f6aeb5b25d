"""Points 7, 20 and 21: orders, and the versions nearest to a version."""

import unittest

from partclones.errors import BadName, Repeated, Taken, Unknown
from partclones.webs.order import Order
from support import CRISS_CROSS, Web, grown_rows, make_order


def picture(order):
    """All that an order tells."""
    return [(name, order.under(name), order.nearest(name)) for name in order.names()]


class OrderTest(unittest.TestCase):
    def test_empty_order(self):
        order = Order()
        self.assertEqual(order.names(), [])
        self.assertEqual(list(order), [])
        self.assertIs(order.has("a"), False)
        self.assertEqual(order.checked([]), [])

    def test_put_returns_none(self):
        self.assertIsNone(Order().put("a", []))

    def test_under(self):
        order = make_order(CRISS_CROSS)
        self.assertEqual(order.under("r"), ["r"])
        self.assertEqual(order.under("a"), ["a", "r"])
        self.assertEqual(order.under("c"), ["a", "b", "c", "r"])
        self.assertEqual(order.under("d"), ["a", "b", "d", "r"])

    def test_is_under(self):
        order = make_order(CRISS_CROSS)
        expected = {name: order.under(name) for name in order.names()}
        for low in order.names():
            for high in order.names():
                self.assertIs(order.is_under(low, high), low in expected[high])
        self.assertIs(order.is_under("c", "d"), False)
        self.assertIs(order.is_under("r", "d"), True)
        self.assertIs(order.is_under("d", "r"), False)

    def test_names_ascend_whatever_the_order_of_the_puts(self):
        order = make_order([("m", []), ("z", ["m"]), ("a", ["z"]), ("b10", ["m"]), ("b9", [])])
        self.assertEqual(order.names(), ["a", "b10", "b9", "m", "z"])
        self.assertEqual(list(order), ["a", "b10", "b9", "m", "z"])
        self.assertEqual([name for name in order], order.names())
        self.assertEqual(order.under("a"), ["a", "m", "z"])

    def test_has(self):
        order = make_order(CRISS_CROSS)
        self.assertIs(order.has("c"), True)
        for word in ("", "e", "C", "no name at all"):
            self.assertIs(order.has(word), False)

    def test_parents_in_any_order(self):
        first = make_order([*CRISS_CROSS, ("e", ["c", "a", "r"])])
        second = make_order([*CRISS_CROSS, ("e", ["r", "c", "a"])])
        self.assertEqual(picture(first), picture(second))

    def test_parents_under_one_another(self):
        order = make_order([("r", []), ("a", ["r"]), ("b", ["a", "r"]), ("c", ["r", "b", "a"])])
        self.assertEqual(order.under("c"), ["a", "b", "c", "r"])
        self.assertEqual(order.nearest("c"), ["b"])
        self.assertEqual(order.nearest("b"), ["a"])

    def test_several_roots(self):
        order = make_order([("a", []), ("b", []), ("c", ["a", "b"])])
        self.assertEqual(order.under("b"), ["b"])
        self.assertEqual(order.nearest("c"), ["a", "b"])

    def test_nearest(self):
        order = make_order(CRISS_CROSS)
        self.assertEqual(order.nearest("r"), [])
        self.assertEqual(order.nearest("a"), ["r"])
        self.assertEqual(order.nearest("c"), ["a", "b"])
        self.assertEqual(order.nearest("d"), ["a", "b"])

    def test_sixty_versions(self):
        for seed in (1, 2, 3):
            rows = grown_rows(60, seed)
            order = make_order(rows)
            web = Web(rows)
            self.assertEqual(order.names(), sorted(name for name, _ in rows))
            self.assertEqual(len(order.names()), 60)
            for high in order:
                lower = sorted(web.under(high))
                self.assertEqual(order.under(high), lower)
                self.assertEqual(order.nearest(high), web.maximal([low for low in lower if low != high]))
                for low in order:
                    self.assertIs(order.is_under(low, high), low in lower)


class RefusedTest(unittest.TestCase):
    def setUp(self):
        self.order = make_order(CRISS_CROSS)

    def refused(self, error, call, *arguments):
        before = picture(self.order)
        with self.assertRaises(error) as caught:
            call(*arguments)
        self.assertEqual(picture(self.order), before)
        return caught.exception.name

    def test_names(self):
        self.order.put("x" * 6, [])
        self.order.put("e", [])
        for name in ("", "x" * 7, "A", "1", "1a", " a", "-a", "/", "<", "aB", "a b"):
            self.assertEqual(self.refused(BadName, self.order.put, name, []), name)

    def test_taken(self):
        self.assertEqual(self.refused(Taken, self.order.put, "a", []), "a")
        self.assertEqual(self.refused(Taken, self.order.put, "r", ["c"]), "r")

    def test_unknown_and_repeated_parents(self):
        self.assertEqual(self.refused(Unknown, self.order.put, "e", ["q"]), "q")
        self.assertEqual(self.refused(Unknown, self.order.put, "e", ["e"]), "e")
        self.assertEqual(self.refused(Repeated, self.order.put, "e", ["a", "b", "a"]), "a")

    def test_which_error_is_due_first(self):
        self.assertEqual(self.refused(Unknown, self.order.put, "e", ["q", "a", "a"]), "q")
        self.assertEqual(self.refused(Repeated, self.order.put, "e", ["a", "a", "q"]), "a")
        self.assertEqual(self.refused(Unknown, self.order.put, "e", ["q", "q"]), "q")
        self.assertEqual(self.refused(Unknown, self.order.put, "e", ["b", "p", "q"]), "p")
        self.assertEqual(self.refused(Repeated, self.order.put, "e", ["a", "b", "b", "a"]), "b")
        self.assertEqual(self.refused(Taken, self.order.put, "a", ["q"]), "a")
        self.assertEqual(self.refused(BadName, self.order.put, "A", ["q"]), "A")

    def test_refused_put_leaves_the_name_free(self):
        self.refused(Unknown, self.order.put, "e", ["q"])
        self.assertIs(self.order.has("e"), False)
        self.order.put("e", ["a"])
        self.assertEqual(self.order.under("e"), ["a", "e", "r"])

    def test_unknown_versions(self):
        for word in ("q", "", "A", "far too long"):
            self.assertEqual(self.refused(Unknown, self.order.under, word), word)
            self.assertEqual(self.refused(Unknown, self.order.nearest, word), word)
            self.assertEqual(self.refused(Unknown, self.order.is_under, word, "a"), word)
            self.assertEqual(self.refused(Unknown, self.order.is_under, "a", word), word)
            self.assertEqual(self.refused(Unknown, self.order.is_under, word, "nobody"), word)

    def test_checked(self):
        names = ["d", "a", "r"]
        result = self.order.checked(names)
        self.assertEqual(result, names)
        self.assertIsNot(result, names)
        self.assertEqual(self.refused(Unknown, self.order.checked, ["d", "q", "d"]), "q")
        self.assertEqual(self.refused(Repeated, self.order.checked, ["d", "a", "d", "q"]), "d")
        self.assertEqual(self.refused(Unknown, self.order.checked, [""]), "")


class KeptTest(unittest.TestCase):
    def test_list_of_parents_is_not_kept(self):
        order = make_order(CRISS_CROSS)
        parents = ["a"]
        order.put("e", parents)
        parents.append("b")
        self.assertEqual(order.under("e"), ["a", "e", "r"])
        self.assertEqual(parents, ["a", "b"])

    def test_returned_lists_are_new(self):
        order = make_order(CRISS_CROSS)
        before = picture(order)
        for result in (order.names(), order.under("d"), order.nearest("d"), order.checked(["a"])):
            result.append("spoilt")
            result.sort(reverse=True)
        self.assertEqual(picture(order), before)
        self.assertEqual(list(order), ["a", "b", "c", "d", "r"])

    def test_what_was_returned_does_not_change_later(self):
        order = make_order(CRISS_CROSS)
        names = order.names()
        lower = order.under("d")
        order.put("e", ["d"])
        self.assertEqual(names, ["a", "b", "c", "d", "r"])
        self.assertEqual(lower, ["a", "b", "d", "r"])

    def test_orders_do_not_share_versions(self):
        first, second = Order(), Order()
        first.put("a", [])
        self.assertEqual(second.names(), [])


if __name__ == "__main__":
    unittest.main()
