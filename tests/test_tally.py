"""Points 35, 36 and 38: kinds, tallies and reaches."""

import unittest

from partclones.errors import Repeated, Unknown
from partclones.histories.tally import moved_tally, reach_of
from partclones.webs.order import Order
from partclones.webs.restrict import restricted
from support import CRISS_CROSS, TWO_ROOTS, Web, grown_rows, make_order, subsets


def plain_tally(web, kept):
    """The tally of a history that has forgotten all but the kept versions, straight from point 35."""
    numbers = {}
    for name in web.parents:
        if name not in kept:
            kind = tuple(sorted(web.minimal([high for high in kept if web.is_under(name, high)])))
            if kind:
                numbers[kind] = numbers.get(kind, 0) + 1
    return tuple(sorted(numbers.items()))


def plain_reach(web, names):
    """The number of all versions under a group."""
    return len([low for low in web.parents if any(web.is_under(low, high) for high in names)])


class MovedTallyTest(unittest.TestCase):
    def setUp(self):
        self.order = make_order(CRISS_CROSS)

    def test_nothing_is_forgotten(self):
        self.assertEqual(moved_tally(self.order, (), self.order.names()), ())
        tally = ((("a",), 2), (("a", "b"), 3), (("b",), 1))
        self.assertEqual(moved_tally(self.order, tally, ["r", "c", "a", "d", "b"]), tally)

    def test_everything_is_forgotten(self):
        self.assertEqual(moved_tally(self.order, ((("a",), 2),), []), ())
        self.assertEqual(moved_tally(Order(), (), []), ())

    def test_kinds_of_one_member(self):
        self.assertEqual(moved_tally(self.order, (), ["a"]), ((("a",), 1),))
        self.assertEqual(moved_tally(self.order, (), ["c"]), ((("c",), 3),))
        self.assertEqual(moved_tally(self.order, (), ["d", "a", "b", "c"]), ((("a", "b"), 1),))

    def test_kinds_of_several_members(self):
        self.assertEqual(moved_tally(self.order, (), ["c", "d"]), ((("c", "d"), 3),))
        self.assertEqual(moved_tally(self.order, (), ["d", "c", "a"]), ((("a",), 1), (("c", "d"), 1)))

    def test_what_is_under_no_kept_version_is_not_counted(self):
        self.assertEqual(moved_tally(self.order, (), ["r"]), ())
        self.assertEqual(moved_tally(self.order, ((("c",), 5), (("d",), 7)), ["c", "r"]), ((("c",), 7),))

    def test_old_kinds_move(self):
        self.assertEqual(moved_tally(self.order, ((("r",), 4),), ["c", "d"]), ((("c", "d"), 7),))
        self.assertEqual(moved_tally(self.order, ((("a",), 4),), ["b", "c"]), ((("b",), 1), (("c",), 5)))
        # Both members of a kind are forgotten, and what lies above them is one version.
        self.assertEqual(moved_tally(self.order, ((("a", "b"), 4),), ["c", "r"]), ((("c",), 6),))
        # One member of a kind comes to lie above another one's place.
        self.assertEqual(moved_tally(self.order, ((("a", "d"), 4),), ["d", "c", "r"]), ((("c", "d"), 6),))

    def test_numbers_of_kinds_that_become_one_are_added(self):
        tally = ((("a",), 2), (("b",), 3))
        self.assertEqual(moved_tally(self.order, tally, ["c"]), ((("c",), 8),))

    def test_against_the_definition(self):
        for rows in (CRISS_CROSS, TWO_ROOTS, grown_rows(7, 2)):
            order, web = make_order(rows), Web(rows)
            for kept in subsets(order.names()):
                self.assertEqual(moved_tally(order, (), kept[::-1]), plain_tally(web, kept))

    def test_twice_in_a_row_is_like_once(self):
        for rows in (CRISS_CROSS, grown_rows(6, 2), grown_rows(6, 9)):
            order = make_order(rows)
            for middle in subsets(order.names()):
                tally = moved_tally(order, (), middle)
                left = restricted(order, middle)
                for kept in subsets(middle):
                    self.assertEqual(moved_tally(left, tally, kept), moved_tally(order, (), kept))

    def test_sixty_versions(self):
        rows = grown_rows(60, 3)
        order, web = make_order(rows), Web(rows)
        for step in (2, 7, 30):
            kept = order.names()[::step]
            self.assertEqual(moved_tally(order, (), kept), plain_tally(web, kept))

    def test_refused(self):
        for call in (moved_tally, reach_of):
            for error, names, name in ((Unknown, ["a", "q", "a"], "q"), (Repeated, ["a", "b", "b", "q"], "b")):
                with self.assertRaises(error) as caught:
                    call(self.order, ((("a",), 1),), names)
                self.assertEqual(caught.exception.name, name)

    def test_nothing_that_is_passed_is_changed(self):
        names = ["d", "c"]
        moved_tally(self.order, ((("r",), 4),), names)
        reach_of(self.order, ((("r",), 4),), names)
        self.assertEqual(names, ["d", "c"])
        self.assertEqual(self.order.names(), ["a", "b", "c", "d", "r"])


class ReachTest(unittest.TestCase):
    def setUp(self):
        self.order = make_order(CRISS_CROSS)

    def test_no_versions(self):
        self.assertEqual(reach_of(self.order, ((("r",), 4),), []), 0)
        self.assertEqual(reach_of(Order(), (), []), 0)

    def test_kept_versions(self):
        self.assertEqual(reach_of(self.order, (), ["r"]), 1)
        self.assertEqual(reach_of(self.order, (), ["d"]), 4)
        self.assertEqual(reach_of(self.order, (), ["d", "c"]), 5)
        self.assertEqual(reach_of(self.order, (), ["b", "a"]), 3)

    def test_forgotten_versions(self):
        tally = ((("a",), 10), (("a", "b"), 200), (("c", "d"), 3000))
        self.assertEqual(reach_of(self.order, tally, ["r"]), 1)
        self.assertEqual(reach_of(self.order, tally, ["a"]), 212)
        self.assertEqual(reach_of(self.order, tally, ["b"]), 202)
        self.assertEqual(reach_of(self.order, tally, ["a", "b"]), 213)
        self.assertEqual(reach_of(self.order, tally, ["c"]), 3214)
        self.assertEqual(reach_of(self.order, tally, ["d", "c"]), 3215)

    def test_forgotten_versions_count_as_before(self):
        for rows in (CRISS_CROSS, TWO_ROOTS, grown_rows(7, 2)):
            order, web = make_order(rows), Web(rows)
            for kept in subsets(order.names()):
                left, tally = restricted(order, kept), moved_tally(order, (), kept)
                for group in subsets(kept):
                    self.assertEqual(reach_of(left, tally, group[::-1]), plain_reach(web, group))


if __name__ == "__main__":
    unittest.main()
