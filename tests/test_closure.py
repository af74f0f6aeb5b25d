"""Points 5, 26 and 27: rounds and closures."""

import inspect
import itertools
import unittest

from partclones.closed.closure import closure, rounds
from partclones.closed.gaps import is_closed
from partclones.errors import Repeated, Unknown
from support import CRISS_CROSS, TWO_ROOTS, Web, grown_rows, make_order, plain_is_closed, subsets


def plain_rounds(web, names):
    """The rounds of a set, straight from point 27."""
    found = [sorted(names)]
    while True:
        last = found[-1]
        wider = {*last, *(base for x in last for y in last for base in web.group_bases([x], [y]))}
        if len(wider) == len(last):
            return found
        found.append(sorted(wider))


class ClosureTest(unittest.TestCase):
    def test_it_is_a_generator(self):
        self.assertTrue(inspect.isgenerator(rounds(make_order(CRISS_CROSS), ["a"])))

    def test_rounds_of_a_closed_list(self):
        order = make_order(CRISS_CROSS)
        self.assertEqual(list(rounds(order, [])), [[]])
        self.assertEqual(list(rounds(order, ["d"])), [["d"]])
        self.assertEqual(list(rounds(order, ["d", "a"])), [["a", "d"]])
        self.assertEqual(closure(order, []), [])
        self.assertEqual(closure(order, ["r", "a"]), ["a", "r"])

    def test_three_rounds(self):
        order = make_order(CRISS_CROSS)
        expected = [["c", "d"], ["a", "b", "c", "d"], ["a", "b", "c", "d", "r"]]
        self.assertEqual(list(rounds(order, ["d", "c"])), expected)
        self.assertEqual(list(rounds(order, ["c", "d"])), expected)
        self.assertEqual(closure(order, ["d", "c"]), expected[-1])

    def test_several_roots(self):
        order = make_order(TWO_ROOTS)
        self.assertEqual(
            list(rounds(order, ["f", "e"])),
            [["e", "f"], ["c", "d", "e", "f"], ["a", "b", "c", "d", "e", "f"], sorted("abcdefpq")],
        )

    def test_each_round_but_the_first_has_more_members(self):
        for seed in range(6):
            order = make_order(grown_rows(40, seed))
            found = list(rounds(order, order.names()[::5]))
            for earlier, later in zip(found, found[1:]):
                self.assertGreater(len(later), len(earlier))
                self.assertLess(set(earlier), set(later))

    def test_rounds_against_the_definition(self):
        for seed in range(6):
            rows = grown_rows(24, seed)
            order, web = make_order(rows), Web(rows)
            for step in (3, 5, 7):
                names = order.names()[::-step]
                self.assertEqual(list(rounds(order, names)), plain_rounds(web, names))

    def test_the_closure_is_the_smallest_closed_set_of_all(self):
        for rows in (CRISS_CROSS, TWO_ROOTS, grown_rows(8, 3), grown_rows(8, 11)):
            order, web = make_order(rows), Web(rows)
            closed = [chosen for chosen in subsets(order.names()) if plain_is_closed(web, chosen)]
            for names in subsets(order.names()):
                around = [chosen for chosen in closed if set(names) <= set(chosen)]
                self.assertEqual(closure(order, names[::-1]), around[0])
                self.assertTrue(all(set(around[0]) <= set(chosen) for chosen in around))

    def test_the_order_of_the_list_does_not_matter(self):
        order = make_order(TWO_ROOTS)
        for names in itertools.permutations(["e", "f", "p"]):
            self.assertEqual(closure(order, list(names)), closure(order, ["e", "f", "p"]))

    def test_sixty_versions(self):
        order = make_order(grown_rows(60, 7))
        found = closure(order, order.names()[::6])
        self.assertIs(is_closed(order, found), True)
        self.assertEqual(closure(order, found), found)
        self.assertEqual(closure(order, order.names()), order.names())

    def test_a_version_that_is_put_later(self):
        order = make_order(CRISS_CROSS)
        self.assertEqual(closure(order, ["d"]), ["d"])
        order.put("e", ["a"])
        self.assertEqual(closure(order, ["d", "e"]), ["a", "d", "e"])

    def test_changing_a_yielded_round_has_no_effect(self):
        found = []
        for names in rounds(make_order(CRISS_CROSS), ["c", "d"]):
            found.append(list(names))
            names.clear()
        self.assertEqual(found, [["c", "d"], ["a", "b", "c", "d"], ["a", "b", "c", "d", "r"]])

    def test_refused(self):
        order = make_order(CRISS_CROSS)
        for error, names, name in (
            (Unknown, ["a", "q", "a"], "q"),
            (Repeated, ["a", "c", "c", "q"], "c"),
            (Unknown, [""], ""),
        ):
            with self.assertRaises(error) as caught:
                closure(order, names)
            self.assertEqual(caught.exception.name, name)
            found = rounds(order, names)
            with self.assertRaises(error) as caught:
                next(found)
            self.assertEqual(caught.exception.name, name)


if __name__ == "__main__":
    unittest.main()
