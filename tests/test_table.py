"""Point 30: tables."""

import unittest

from partclones.closed.table import table, takes_table
from partclones.errors import NotClosed, Repeated, Unknown
from support import CRISS_CROSS, TWO_ROOTS, Web, make_order, plain_is_closed, subsets

WHOLE = [
    ("a", "b", ["r"]),
    ("a", "c", ["a"]),
    ("a", "d", ["a"]),
    ("a", "r", ["r"]),
    ("b", "c", ["b"]),
    ("b", "d", ["b"]),
    ("b", "r", ["r"]),
    ("c", "d", ["a", "b"]),
    ("c", "r", ["r"]),
    ("d", "r", ["r"]),
]


class TableTest(unittest.TestCase):
    def setUp(self):
        self.order = make_order(CRISS_CROSS)

    def takes(self, names, rows):
        found = takes_table(self.order, names, rows)
        self.assertIsInstance(found, bool)
        return found

    def test_table(self):
        self.assertEqual(table(self.order, ["d", "r", "a", "c", "b"]), WHOLE)
        self.assertEqual(table(self.order, ["a"]), [])
        self.assertEqual(table(self.order, []), [])
        self.assertEqual(table(make_order(TWO_ROOTS), ["q", "p"]), [("p", "q", [])])

    def test_not_closed(self):
        with self.assertRaises(NotClosed) as caught:
            table(self.order, ["d", "a", "c"])
        error = caught.exception
        self.assertEqual((error.first, error.second, error.missing), ("c", "d", "b"))

    def test_the_table_is_taken(self):
        self.assertTrue(self.takes(["d", "r", "a", "c", "b"], list(WHOLE)))
        self.assertTrue(self.takes([], []))
        self.assertTrue(self.takes(["d"], []))

    def test_too_few_and_too_many_rows(self):
        names = ["a", "b", "c", "d", "r"]
        for at in range(len(WHOLE)):
            self.assertFalse(self.takes(names, WHOLE[:at] + WHOLE[at + 1:]))
            self.assertFalse(self.takes(names, WHOLE[:at] + [WHOLE[at]] + WHOLE[at:]))
        self.assertFalse(self.takes(names, [*WHOLE, ("q", "z", [])]))
        self.assertFalse(self.takes(names, [("a", "a", ["a"]), *WHOLE]))
        self.assertFalse(self.takes(["d"], [("d", "d", ["d"])]))

    def test_rows_in_another_order(self):
        names = ["a", "b", "c", "d", "r"]
        self.assertFalse(self.takes(names, WHOLE[::-1]))
        self.assertFalse(self.takes(names, [WHOLE[1], WHOLE[0], *WHOLE[2:]]))

    def test_x_and_y_exchanged(self):
        names = ["a", "b", "c", "d", "r"]
        for at, (x, y, bases) in enumerate(WHOLE):
            self.assertFalse(self.takes(names, WHOLE[:at] + [(y, x, bases)] + WHOLE[at + 1:]))

    def test_other_bases(self):
        names = ["a", "b", "c", "d", "r"]
        for bases in ([], ["a"], ["b"], ["b", "a"], ["a", "b", "r"], ["a", "b", "b"], ["a", "q"], ["", "NO"]):
            self.assertFalse(self.takes(names, [*WHOLE[:7], ("c", "d", bases), *WHOLE[8:]]))

    def test_strings_that_are_no_names(self):
        self.assertFalse(self.takes(["a", "r"], [("q", "NO", [""])]))

    def test_a_set_that_is_not_closed_has_no_table(self):
        self.assertFalse(self.takes(["c", "d"], [("c", "d", ["a", "b"])]))
        self.assertFalse(self.takes(["c", "d"], [("c", "d", [])]))
        self.assertFalse(self.takes(["c", "d"], []))

    def test_all_sets_of_a_small_order(self):
        order, web = make_order(TWO_ROOTS), Web(TWO_ROOTS)
        for names in subsets(order.names()):
            rows = [(x, y, web.group_bases([x], [y])) for x in names for y in names if x < y]
            closed = plain_is_closed(web, names)
            self.assertIs(takes_table(order, names[::-1], rows), closed)
            if closed:
                self.assertEqual(table(order, names[::-1]), rows)
            else:
                self.assertRaises(NotClosed, table, order, names)

    def test_refused(self):
        for error, names, name in (
            (Unknown, ["c", "d", "q", "c"], "q"),
            (Repeated, ["c", "d", "d", "q"], "d"),
        ):
            for call, *more in ((table,), (takes_table, [])):
                with self.assertRaises(error) as caught:
                    call(self.order, names, *more)
                self.assertEqual(caught.exception.name, name)

    def test_returned_rows_are_new(self):
        rows = table(self.order, ["d", "r", "a", "c", "b"])
        for _, _, bases in rows:
            bases.clear()
        rows.clear()
        self.assertEqual(table(self.order, ["d", "r", "a", "c", "b"]), WHOLE)


if __name__ == "__main__":
    unittest.main()
