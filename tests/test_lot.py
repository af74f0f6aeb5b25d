"""Points 3, 28 and 31: lots."""

import unittest

from partclones.closed.closure import closure
from partclones.closed.lot import Lot, joined
from partclones.errors import Needed, NotClosed, Repeated, Unknown
from support import CRISS_CROSS, TWO_ROOTS, Web, grown_rows, make_order, plain_is_closed, subsets


class LotTest(unittest.TestCase):
    def setUp(self):
        self.order = make_order(CRISS_CROSS)

    def lot(self, *names):
        return Lot(self.order, list(names))

    def check(self, lot, members):
        self.assertIs(type(lot), Lot)
        self.assertEqual(list(lot), sorted(members))

    def test_members(self):
        lot = self.lot("r", "a")
        self.check(lot, ["a", "r"])
        self.assertEqual([name for name in lot], ["a", "r"])
        self.assertIs("a" in lot, True)
        self.assertIs("b" in lot, False)
        for word in ("", "NO", "far too long", "ar"):
            self.assertIs(word in lot, False)
        self.check(self.lot(), [])
        self.assertIs("a" in self.lot(), False)

    def test_not_closed(self):
        for names, gap in (
            (["d", "c"], ("c", "d", "a")),
            (["c", "a", "d"], ("c", "d", "b")),
            (["b", "a", "d", "c"], ("a", "b", "r")),
        ):
            with self.assertRaises(NotClosed) as caught:
                Lot(self.order, names)
            error = caught.exception
            self.assertEqual((error.first, error.second, error.missing), gap)

    def test_lists_of_versions(self):
        for make in (Lot, Lot.over):
            for error, names, name in (
                (Unknown, ["c", "d", "q"], "q"),
                (Repeated, ["c", "d", "c"], "c"),
                (Unknown, ["q", "c", "c"], "q"),
            ):
                with self.assertRaises(error) as caught:
                    make(self.order, names)
                self.assertEqual(caught.exception.name, name)

    def test_over(self):
        self.check(Lot.over(self.order, ["d", "c"]), ["a", "b", "c", "d", "r"])
        self.check(Lot.over(self.order, ["d"]), ["d"])
        self.check(Lot.over(self.order, []), [])
        self.check(self.lot("a").over(self.order, ["b"]), ["b"])

    def test_equal(self):
        self.assertIs(self.lot("a", "r") == self.lot("r", "a"), True)
        self.assertIs(self.lot("a") == self.lot("r"), False)
        self.assertIs(self.lot("a") == self.lot("a", "r"), False)
        self.assertIs(self.lot() == Lot.over(self.order, []), True)
        self.assertIs(self.lot("a") != self.lot("a"), False)

    def test_common_part(self):
        whole = Lot.over(self.order, ["c", "d"])
        self.check(whole & self.lot("a", "r"), ["a", "r"])
        self.check(self.lot("a", "d") & self.lot("b", "d"), ["d"])
        self.check(self.lot("a") & self.lot("b"), [])
        self.check(whole & whole, ["a", "b", "c", "d", "r"])

    def test_join(self):
        self.check(self.lot("c") | self.lot("d"), ["a", "b", "c", "d", "r"])
        self.check(self.lot("a") | self.lot("r"), ["a", "r"])
        self.check(self.lot("a", "d") | self.lot("d"), ["a", "d"])
        self.check(self.lot() | self.lot("b"), ["b"])
        self.check(self.lot() | self.lot(), [])

    def test_within(self):
        self.assertIs(self.lot("a").within(self.lot("r", "a")), True)
        self.assertIs(self.lot("a", "r").within(self.lot("a", "r")), True)
        self.assertIs(self.lot("a", "r").within(self.lot("a")), False)
        self.assertIs(self.lot("b").within(self.lot("a", "r")), False)
        self.assertIs(self.lot().within(self.lot()), True)

    def test_plus(self):
        self.check(self.lot("c").plus("d"), ["a", "b", "c", "d", "r"])
        self.check(self.lot("c").plus("a"), ["a", "c"])
        self.check(self.lot("c").plus("c"), ["c"])
        self.check(self.lot().plus("b"), ["b"])
        for word in ("q", ""):
            with self.assertRaises(Unknown) as caught:
                self.lot("c").plus(word)
            self.assertEqual(caught.exception.name, word)

    def test_minus(self):
        whole = Lot.over(self.order, ["c", "d"])
        self.check(whole.minus("d"), ["a", "b", "c", "r"])
        self.check(whole.minus("d").minus("b"), ["a", "c", "r"])
        self.check(self.lot("a").minus("a"), [])
        for name in ("a", "b", "r"):
            with self.assertRaises(Needed) as caught:
                whole.minus(name)
            self.assertEqual(caught.exception.name, name)

    def test_minus_of_what_is_no_member(self):
        for word in ("b", "q", ""):
            with self.assertRaises(Unknown) as caught:
                self.lot("a", "r").minus(word)
            self.assertEqual(caught.exception.name, word)

    def test_joined(self):
        self.check(joined(self.lot("a")), ["a"])
        self.check(joined(self.lot("c"), self.lot("d")), ["a", "b", "c", "d", "r"])
        self.check(joined(self.lot("a"), self.lot("r"), self.lot("b")), ["a", "b", "r"])
        self.check(joined(self.lot(), self.lot(), self.lot()), [])

    def test_a_lot_keeps_its_members_when_versions_are_added(self):
        lot = self.lot("c")
        self.order.put("e", ["a"])
        self.check(lot, ["c"])
        self.assertIs("e" in lot, False)
        self.check(lot.plus("e"), ["a", "c", "e"])
        self.check(lot | self.lot("e"), ["a", "c", "e"])
        self.check(self.lot("e").plus("d"), ["a", "d", "e"])

    def test_no_lot_is_changed(self):
        one, other = self.lot("c", "a"), self.lot("d", "b")
        for result in (
            *[one & other, one | other, one.plus("d"), one.minus("a"), joined(one, other), joined(one)],
            *[one & one, one | one, one.plus("c")],
        ):
            self.assertIsNot(result, one)
            self.check(one, ["a", "c"])
            self.check(other, ["b", "d"])
        one.within(other)
        self.check(one, ["a", "c"])
        self.assertEqual(self.order.names(), ["a", "b", "c", "d", "r"])

    def test_the_list_that_was_passed_is_not_kept(self):
        names = ["r", "a"]
        lot = Lot(self.order, names)
        self.assertEqual(names, ["r", "a"])
        names.append("q")
        self.check(lot, ["a", "r"])

    def test_all_lots_of_small_orders(self):
        for rows in (CRISS_CROSS, TWO_ROOTS[:6], grown_rows(6, 3)):
            order, web = make_order(rows), Web(rows)
            closed = []
            for names in subsets(order.names()):
                if plain_is_closed(web, names):
                    closed.append(names)
                else:
                    self.assertRaises(NotClosed, Lot, order, names)
            for ones in closed:
                for others in closed:
                    one, other = Lot(order, ones), Lot(order, others)
                    union = sorted({*ones, *others})
                    self.assertEqual(list(one & other), sorted({*ones} & {*others}))
                    self.assertEqual(list(one | other), closure(order, union))
                    self.assertEqual(list(joined(one, other)), closure(order, union))
                    self.assertIs(one == other, ones == others)
                    self.assertIs(one.within(other), {*ones} <= {*others})


if __name__ == "__main__":
    unittest.main()
