"""Points 4, 5 and 31: free and needed members, and peeling."""

import inspect
import itertools
import unittest

from partclones.closed.closure import closure
from partclones.closed.peel import is_free, peel
from partclones.errors import BadRanking, NotClosed, Repeated, Unknown
from support import CRISS_CROSS, TWO_ROOTS, Web, grown_rows, make_order, plain_is_closed, subsets

ALL = ["a", "b", "c", "d", "r"]


def plain_is_free(web, names, name):
    """Whether a member is free, straight from point 31."""
    others = [other for other in names if other != name]
    return not any(name in web.group_bases([x], [y]) for x in others for y in others)


def plain_peel(web, names, kept, ranking):
    """What is dropped, straight from point 31."""
    left, dropped = list(names), []
    while True:
        free = [name for name in ranking if name in left and name not in kept and plain_is_free(web, left, name)]
        if not free:
            return dropped
        left.remove(free[0])
        dropped.append(free[0])


class FreeTest(unittest.TestCase):
    def test_free_and_needed(self):
        order = make_order(CRISS_CROSS)
        self.assertEqual([name for name in ALL if is_free(order, ALL, name)], ["c", "d"])
        self.assertIs(is_free(order, ["c", "a", "b", "r"], "a"), True)
        self.assertIs(is_free(order, ["b", "a", "r"], "r"), False)
        self.assertIs(is_free(order, ["a", "r"], "r"), True)
        self.assertIs(is_free(order, ["d"], "d"), True)

    def test_all_closed_sets_of_small_orders(self):
        for rows in (CRISS_CROSS, TWO_ROOTS, grown_rows(7, 5)):
            order, web = make_order(rows), Web(rows)
            for names in subsets(order.names()):
                if not plain_is_closed(web, names):
                    continue
                for name in names:
                    free = is_free(order, names[::-1], name)
                    self.assertIs(free, plain_is_free(web, names, name))
                    rest = [other for other in names if other != name]
                    self.assertEqual(free, plain_is_closed(web, rest))

    def test_refused(self):
        order = make_order(CRISS_CROSS)
        for error, names, member, name in (
            (Unknown, ["a", "q"], "o", "q"),
            (Repeated, ["a", "a"], "o", "a"),
            (Unknown, ["a", "r"], "b", "b"),
            (Unknown, ["a", "r"], "q", "q"),
            (Unknown, [], "", ""),
        ):
            with self.assertRaises(error) as caught:
                is_free(order, names, member)
            self.assertEqual(caught.exception.name, name)
        with self.assertRaises(NotClosed) as caught:
            is_free(order, ["c", "d"], "q")
        error = caught.exception
        self.assertEqual((error.first, error.second, error.missing), ("c", "d", "a"))


class PeelTest(unittest.TestCase):
    def setUp(self):
        self.order = make_order(CRISS_CROSS)

    def peeled(self, names, kept, ranking):
        return list(peel(self.order, list(names), list(kept), list(ranking)))

    def test_it_is_a_generator(self):
        self.assertTrue(inspect.isgenerator(peel(self.order, ALL, [], ALL)))

    def test_in_the_order_of_the_ranking(self):
        self.assertEqual(self.peeled(ALL, [], "abcdr"), ["c", "a", "b", "d", "r"])
        self.assertEqual(self.peeled(ALL, [], "rdcba"), ["d", "c", "b", "r", "a"])
        self.assertEqual(self.peeled("rdcba", [], "dbrca"), ["d", "b", "r", "c", "a"])

    def test_each_time_from_the_beginning_of_the_ranking(self):
        self.assertEqual(self.peeled(ALL, [], "rabcd"), ["c", "a", "r", "b", "d"])
        self.assertEqual(self.peeled(ALL, ["d"], "rabcd"), ["c", "a", "r", "b"])

    def test_kept_members(self):
        self.assertEqual(self.peeled(ALL, ["c", "d"], "abcdr"), [])
        self.assertEqual(self.peeled(ALL, ["b", "a"], "abcdr"), ["c", "d"])
        self.assertEqual(self.peeled(ALL, ["c", "r"], "dabcr"), ["d", "a", "b"])
        self.assertEqual(self.peeled(ALL, ALL, ALL), [])

    def test_nothing_to_peel(self):
        self.assertEqual(self.peeled([], [], []), [])
        self.assertEqual(self.peeled(["a"], ["a"], ["a"]), [])

    def test_whatever_the_ranking_is_the_closure_of_the_kept_members_is_left(self):
        web = Web(CRISS_CROSS)
        rankings = list(itertools.permutations(ALL))
        for number, kept in enumerate(subsets(ALL)):
            left = closure(self.order, kept)
            for ranking in rankings:
                self.assertEqual(sorted(set(ALL) - set(self.peeled(ALL, kept, ranking))), left)
            for ranking in rankings[number % 17::17]:
                self.assertEqual(self.peeled(ALL, kept, ranking), plain_peel(web, ALL, kept, ranking))

    def test_several_rankings_of_a_larger_order(self):
        for seed in range(3):
            rows = grown_rows(14, seed)
            order = make_order(rows)
            names = order.names()
            kept = names[::5]
            for ranking in (names, names[::-1], names[7:] + names[:7], names[::2] + names[1::2]):
                dropped = list(peel(order, names, kept, ranking))
                self.assertEqual(dropped, plain_peel(Web(rows), names, kept, ranking))
                self.assertEqual(sorted(set(names) - set(dropped)), closure(order, kept))

    def test_sixty_versions(self):
        order = make_order(grown_rows(60, 4))
        names = order.names()
        self.assertEqual(sorted(peel(order, names, [], names[::-1])), names)

    def test_bad_rankings(self):
        for ranking in (["a"], ["a", "r", "a"], ["a", "a"], ["a", "r", "b"], ["a", "q"], ["a", "b"], [], ["a", ""]):
            found = peel(self.order, ["r", "a"], [], ranking)
            self.assertRaises(BadRanking, next, found)
        self.assertEqual(self.peeled(["r", "a"], [], ["a", "r"]), ["a", "r"])
        self.assertRaises(BadRanking, next, peel(self.order, [], [], ["a"]))

    def test_which_error_comes_first(self):
        for error, names, kept, ranking, name in (
            (Unknown, ["a", "q"], ["o"], ["o"], "q"),
            (Repeated, ["c", "d", "d"], ["o"], ["o"], "d"),
            (Unknown, ["a", "r"], ["b", "b"], ["o"], "b"),
            (Unknown, ["a", "r"], ["a", "q", "a"], ["a", "r"], "q"),
            (Repeated, ["a", "r"], ["a", "a", "q"], ["o"], "a"),
        ):
            found = peel(self.order, names, kept, ranking)
            with self.assertRaises(error) as caught:
                next(found)
            self.assertEqual(caught.exception.name, name)
        found = peel(self.order, ["c", "d", "a"], ["q"], ["q"])
        with self.assertRaises(NotClosed) as caught:
            next(found)
        error = caught.exception
        self.assertEqual((error.first, error.second, error.missing), ("c", "d", "b"))


if __name__ == "__main__":
    unittest.main()
