"""Point 41: group reaches, and the tally that they tell."""

import unittest

from partclones.errors import TooMany
from partclones.histories.inverse import group_reaches, tally_from
from partclones.histories.tally import moved_tally, reach_of
from partclones.webs.order import Order
from partclones.webs.restrict import restricted
from support import CRISS_CROSS, TWO_ROOTS, Chooser, Web, grown_rows, make_order, subsets


def kinds_of(rows):
    """All tuples of versions of which none is under another one."""
    web = Web(rows)
    return sorted(tuple(group) for group in subsets(web.parents) if group and web.maximal(group) == group)


class InverseTest(unittest.TestCase):
    def test_no_versions(self):
        self.assertEqual(group_reaches(Order(), ()), [])
        self.assertEqual(tally_from(Order(), []), ())

    def test_one_version(self):
        order = make_order([("a", [])])
        self.assertEqual(group_reaches(order, ()), [(("a",), 1)])
        self.assertEqual(group_reaches(order, ((("a",), 7),)), [(("a",), 8)])
        self.assertEqual(tally_from(order, [(("a",), 1)]), ())
        self.assertEqual(tally_from(order, [(("a",), 8)]), ((("a",), 7),))

    def test_groups_ascend(self):
        order = make_order([("c", []), ("a", ["c"]), ("b", ["c"])])
        found = group_reaches(order, ((("a", "b"), 10), (("b",), 5)))
        self.assertEqual(
            found,
            [
                *[(("a",), 12), (("a", "b"), 18), (("a", "b", "c"), 18), (("a", "c"), 12)],
                *[(("b",), 17), (("b", "c"), 17), (("c",), 1)],
            ],
        )
        self.assertEqual(found, sorted(found))

    def test_all_groups_of_six_versions(self):
        order = make_order(grown_rows(6, 4))
        tally = ((tuple(order.names()[:1]), 3),)
        found = group_reaches(order, tally)
        self.assertEqual(len(found), 63)
        self.assertEqual([group for group, _ in found], sorted(tuple(group) for group in subsets(order.names()))[1:])
        for group, reach in found:
            self.assertEqual(reach, reach_of(order, tally, list(group)))

    def test_all_tallies_of_one_kind(self):
        for rows in (CRISS_CROSS, TWO_ROOTS[:6], grown_rows(6, 3), [(name, []) for name in "abcdef"]):
            order = make_order(rows)
            self.assertEqual(tally_from(order, group_reaches(order, ())), ())
            for number, kind in enumerate(kinds_of(rows), 1):
                tally = ((kind, number),)
                self.assertEqual(tally_from(order, group_reaches(order, tally)), tally)

    def test_tallies_of_many_kinds(self):
        chooser = Chooser(8)
        for rows in (CRISS_CROSS, TWO_ROOTS[:6], grown_rows(6, 3), grown_rows(5, 8), [(name, []) for name in "abcdef"]):
            order, kinds = make_order(rows), kinds_of(rows)
            for _ in range(20):
                tally = tuple((kind, 1 + chooser.below(9)) for kind in kinds if chooser.below(2))
                found = tally_from(order, group_reaches(order, tally))
                self.assertEqual(found, tally)
                self.assertIs(type(found), tuple)

    def test_the_tally_of_forgotten_versions(self):
        rows = grown_rows(20, 6)
        order = make_order(rows)
        for start in range(14):
            kept = order.names()[start:start + 6]
            tally = moved_tally(order, (), kept)
            left = restricted(order, kept)
            self.assertEqual(tally_from(left, group_reaches(left, tally)), tally)

    def test_too_many_versions(self):
        order = make_order(grown_rows(7, 4))
        self.assertRaises(TooMany, group_reaches, order, ())
        self.assertRaises(TooMany, tally_from, order, [])

    def test_reaches_are_not_changed(self):
        order = make_order(CRISS_CROSS)
        reaches = group_reaches(order, ((("a",), 2),))
        before = list(reaches)
        tally_from(order, reaches)
        self.assertEqual(reaches, before)
        reaches.clear()
        self.assertEqual(group_reaches(order, ((("a",), 2),)), before)


if __name__ == "__main__":
    unittest.main()
