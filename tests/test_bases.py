"""Points 21 and 22: maximal versions, common versions and merge bases."""

import itertools
import unittest

from partclones.errors import Repeated, Unknown
from partclones.webs.bases import common, group_bases, maximal, merge_bases
from support import CRISS_CROSS, Web, grown_rows, make_order


class BasesTest(unittest.TestCase):
    def setUp(self):
        self.order = make_order(CRISS_CROSS)

    def test_examples(self):
        order = self.order
        self.assertEqual(
            [merge_bases(order, "c", "d"), merge_bases(order, "a", "b"), merge_bases(order, "a", "d")],
            [["a", "b"], ["r"], ["a"]],
        )
        self.assertEqual(group_bases(order, ["a", "b"], ["b"]), ["b"])

    def test_maximal(self):
        self.assertEqual(maximal(self.order, []), [])
        self.assertEqual(maximal(self.order, ["r"]), ["r"])
        self.assertEqual(maximal(self.order, ["r", "c", "b"]), ["c"])
        self.assertEqual(maximal(self.order, ["d", "a", "c", "r", "b"]), ["c", "d"])
        self.assertEqual(maximal(self.order, ["b", "r", "a"]), ["a", "b"])

    def test_common(self):
        self.assertEqual(common(self.order, ["c"], ["d"]), ["a", "b", "r"])
        self.assertEqual(common(self.order, ["a", "b"], ["b"]), ["b", "r"])
        self.assertEqual(common(self.order, ["a", "d"], ["b", "c"]), ["a", "b", "r"])
        self.assertEqual(common(self.order, ["d", "c"], ["d", "c"]), ["a", "b", "c", "d", "r"])

    def test_two_merge_bases(self):
        self.assertEqual(merge_bases(self.order, "c", "d"), ["a", "b"])
        self.assertEqual(merge_bases(self.order, "d", "c"), ["a", "b"])

    def test_version_and_itself(self):
        for name in self.order:
            self.assertEqual(merge_bases(self.order, name, name), [name])

    def test_one_under_the_other(self):
        self.assertEqual(merge_bases(self.order, "r", "d"), ["r"])
        self.assertEqual(merge_bases(self.order, "d", "b"), ["b"])

    def test_none(self):
        order = make_order([("a", []), ("b", []), ("c", ["b"])])
        self.assertEqual(merge_bases(order, "a", "c"), [])
        self.assertEqual(group_bases(order, ["a"], ["b", "c"]), [])
        self.assertEqual(common(order, ["a"], ["c"]), [])

    def test_empty_group(self):
        for ones, others in (([], []), ([], ["c"]), (["c", "d"], [])):
            self.assertEqual(common(self.order, ones, others), [])
            self.assertEqual(group_bases(self.order, ones, others), [])

    def test_group_bases_of_groups_that_share_members(self):
        self.assertEqual(group_bases(self.order, ["c", "d"], ["d", "c"]), ["c", "d"])
        self.assertEqual(group_bases(self.order, ["c", "a"], ["d", "a"]), ["a", "b"])

    def test_all_small_groups_against_the_definition(self):
        rows = [*CRISS_CROSS, ("k", []), ("e", ["k", "b"]), ("aa", ["e", "c"])]
        order, web = make_order(rows), Web(rows)
        groups = [list(group) for size in range(4) for group in itertools.permutations(order.names(), size)]
        for group in groups:
            self.assertEqual(maximal(order, group), web.maximal(group))
        for ones in groups[::7]:
            for others in groups[::5]:
                self.assertEqual(common(order, ones, others), web.common(ones, others))
                self.assertEqual(group_bases(order, ones, others), web.group_bases(ones, others))

    def test_sixty_versions(self):
        rows = grown_rows(60, 7)
        order, web = make_order(rows), Web(rows)
        for one in order:
            for other in order:
                self.assertEqual(merge_bases(order, one, other), web.group_bases([one], [other]))
        self.assertEqual(maximal(order, order.names()), web.maximal(order.names()))
        self.assertTrue(any(len(merge_bases(order, one, other)) > 1 for one in order for other in order))


class RefusedTest(unittest.TestCase):
    def setUp(self):
        self.order = make_order(CRISS_CROSS)

    def refused(self, error, call, *arguments):
        with self.assertRaises(error) as caught:
            call(self.order, *arguments)
        return caught.exception.name

    def test_maximal(self):
        self.assertEqual(self.refused(Unknown, maximal, ["a", "q", "a"]), "q")
        self.assertEqual(self.refused(Repeated, maximal, ["a", "b", "b", "q"]), "b")

    def test_groups(self):
        for call in (common, group_bases):
            self.assertEqual(self.refused(Unknown, call, ["a", "q", "p"], ["o"]), "q")
            self.assertEqual(self.refused(Repeated, call, ["a", "a", "q"], ["o"]), "a")
            self.assertEqual(self.refused(Unknown, call, ["a"], ["b", "o", "b"]), "o")
            self.assertEqual(self.refused(Repeated, call, ["a"], ["b", "b", "o"]), "b")
            self.assertEqual(self.refused(Unknown, call, [], ["o"]), "o")
            self.assertEqual(self.refused(Unknown, call, ["o"], []), "o")

    def test_merge_bases(self):
        self.assertEqual(self.refused(Unknown, merge_bases, "q", "p"), "q")
        self.assertEqual(self.refused(Unknown, merge_bases, "a", "p"), "p")
        self.assertEqual(self.refused(Unknown, merge_bases, "q", "q"), "q")


if __name__ == "__main__":
    unittest.main()
