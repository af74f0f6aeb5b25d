"""Point 49: scripts that part histories."""

import unittest

from partclones.errors import UnlikeNames
from partclones.histories.core import core
from partclones.histories.history import History
from partclones.scripts.parting import parting
from partclones.scripts.run import run
from support import CRISS_CROSS, TWO_ROOTS, Chooser, Grown, Web, criss_cross, example, is_plain


def bare(rows, tally=()):
    """A history with the order of some rows, empty trees and a tally."""
    web = Web(rows)
    facts = []
    for name in sorted(web.parents):
        lower = [low for low in web.parents if low != name and web.is_under(low, name)]
        facts.append((name, tuple(web.maximal(lower)), (), ()))
    return History.of((tuple(facts), tally))


def plain_script(rows, one, other):
    """The script for two different tallies of the same order, straight from point 49."""
    web = Web(rows)
    differences = {}
    for tally, sign in ((one, 1), (other, -1)):
        for kind, number in tally:
            roof = tuple(sorted(high for high in web.parents if any(web.is_under(name, high) for name in kind)))
            differences[roof] = differences.get(roof, 0) + sign * number
    group = web.maximal(list(web.parents))
    if sum(differences.values()) == 0:
        roof = sorted((len(roof), roof) for roof in differences if differences[roof])[0][1]
        group = web.maximal([name for name in web.parents if name not in roof])
    if len(group) == 1:
        return [("ask", ("reach", group[0]))]
    return [("commit", "x0", tuple(group), ()), ("ask", ("reach", "x0"))]


class PartingTest(unittest.TestCase):
    def check(self, first, second, script):
        """Check the script for two histories, both ways, and that it parts them."""
        before = [history.facts() for history in (first, second)]
        for one, other in ((first, second), (second, first)):
            found = parting(one, other)
            self.assertIs(type(found), list)
            self.assertTrue(all(is_plain(command) for command in found))
            self.assertEqual(found, script)
            answers = [run(history, found)[1] for history in (one, other)]
            self.assertNotEqual(answers[0], answers[1])
            self.assertNotIn("refused", [told[0] for told in answers[0] + answers[1]])
        self.assertEqual([history.facts() for history in (first, second)], before)
        found.clear()
        self.assertEqual(parting(first, second), script)

    def test_histories_that_are_alike(self):
        for history in (History(), example(), criss_cross(), History.of(core(example(), ["m"]))):
            self.assertIsNone(parting(history, history))
            self.assertIsNone(parting(history, history.copied()))
            self.assertIsNone(parting(history, History.of(history.facts())))

    def test_unlike_names(self):
        more = example()
        more.commit("n", [], {})
        for one, other in (
            *[(example(), more), (more, example()), (History(), example()), (example(), criss_cross())],
            *[(example(), History.of(core(example(), ["m", "r", "x"])))],
        ):
            self.assertRaises(UnlikeNames, parting, one, other)

    def test_files(self):
        first = criss_cross(b={"f": ["a"]}, c={"f": ["a"]}, r={})
        for second in (criss_cross(), criss_cross(b={"f": []}), criss_cross(b={"g": ["a"]}, a={})):
            self.check(first, second, [("ask", ("show", "b"))])
        self.check(criss_cross(d={"f": []}), criss_cross(), [("ask", ("show", "d"))])

    def test_files_come_ahead_of_all_else(self):
        first, second = example(), History()
        for name, parents in (("m", []), ("r", ["m"]), ("x", []), ("y", ["x"])):
            second.commit(name, parents, first.tree(name) if name != "y" else {})
        self.check(first, second, [("ask", ("show", "y"))])

    def test_origins(self):
        first, second = History(), History()
        for history, parents in ((first, ["a", "b"]), (second, ["b", "a"])):
            history.commit("a", [], {"f": ["x"]})
            history.commit("b", [], {"f": ["x"]})
            history.commit("c", parents, {"f": ["x"], "g": []})
            history.commit("d", ["c"], {"f": ["x"]})
        self.check(first, second, [("ask", ("origins", "c"))])
        # The order differs as well, and at an earlier name.
        third = History()
        third.commit("b", [], {"f": ["x"]})
        third.commit("a", [], {"f": ["x"]})
        third.commit("c", ["b"], {"f": ["x"], "g": []})
        third.commit("d", ["c"], {"f": ["x"]})
        self.check(first, third, [("ask", ("origins", "c"))])

    def test_orders(self):
        first = criss_cross()
        for second, pair in (
            (bare([*CRISS_CROSS[:3], ("c", ["a"]), ("d", ["b", "a"])]), ("b", "c")),
            (bare([("r", []), ("a", ["r"]), ("b", ["a"]), ("c", ["b"]), ("d", ["b"])]), ("a", "b")),
            (bare([("r", []), ("a", []), ("b", ["r"]), ("c", ["a", "b"]), ("d", ["a", "b"])]), ("r", "a")),
            (bare([("a", []), ("r", []), ("b", []), ("c", []), ("d", [])], ((("a",), 1),)), ("a", "c")),
        ):
            self.check(first, second, [("ask", ("under", *pair))])

    def test_sums_of_differences_that_are_not_zero(self):
        # One version above all others.
        rows = [("r", []), ("a", ["r"]), ("t", ["a"])]
        script = [("ask", ("reach", "t"))]
        self.check(bare(rows), bare(rows, ((("r",), 1),)), script)
        self.check(bare(rows, ((("a",), 2),)), bare(rows, ((("a",), 1), (("r",), 2))), script)
        # Several versions above all others.
        script = [("commit", "x0", ("c", "d"), ()), ("ask", ("reach", "x0"))]
        self.check(bare(CRISS_CROSS, ((("c", "d"), 1),)), bare(CRISS_CROSS), script)
        self.check(bare(CRISS_CROSS, ((("c",), 5),)), bare(CRISS_CROSS, ((("c",), 3),)), script)

    def test_sums_of_differences_that_are_zero(self):
        # The smallest roof with a difference is c alone; outside of it only d is maximal.
        one, other = ((("c",), 1),), ((("r",), 1),)
        self.check(bare(CRISS_CROSS, one), bare(CRISS_CROSS, other), [("ask", ("reach", "d"))])
        # Both roofs have one member: the first one by its tuple counts.
        one, other = ((("c",), 1),), ((("d",), 1),)
        self.check(bare(CRISS_CROSS, one), bare(CRISS_CROSS, other), [("ask", ("reach", "d"))])
        # The roofs are all but b and r, and all but a and r.
        one, other = ((("a",), 1),), ((("b",), 1),)
        self.check(bare(CRISS_CROSS, one), bare(CRISS_CROSS, other), [("ask", ("reach", "b"))])
        # The roof of c alone has no difference, and outside of c and d lie a and b.
        one, other = ((("c", "d"), 2), (("c",), 1)), ((("a",), 2), (("c",), 1))
        script = [("commit", "x0", ("a", "b"), ()), ("ask", ("reach", "x0"))]
        self.check(bare(CRISS_CROSS, tuple(sorted(one))), bare(CRISS_CROSS, other), script)

    def test_the_first_roof_by_its_ascending_tuple(self):
        # The versions are not made in the order of their names.
        rows = [("y", []), ("z", []), ("a", ["z"]), ("b", ["y"])]
        one, other = ((("y",), 1),), ((("z",), 1),)
        self.check(bare(rows, one), bare(rows, other), [("ask", ("reach", "b"))])
        full = [History(), History()]
        for history, low in zip(full, "yz"):
            history.commit("x0", [], {})
            for name, parents in rows:
                history.commit(name, parents + ["x0"] * (name == low), {})
        thin = [History.of(core(history, ["a", "b", "y", "z"])) for history in full]
        self.check(*thin, [("ask", ("reach", "b"))])

    def test_a_fresh_name(self):
        rows = [("x0", []), ("x2", []), ("a", [])]
        script = [("commit", "x1", ("a", "x0", "x2"), ()), ("ask", ("reach", "x1"))]
        self.check(bare(rows), bare(rows, ((("x0",), 1),)), script)

    def test_against_the_definition(self):
        chooser = Chooser(11)
        for rows in (CRISS_CROSS, TWO_ROOTS, Grown(2).grow(8).rows, [("a", []), ("b", []), ("c", ["a", "b"])]):
            web = Web(rows)
            kinds = sorted({
                tuple(sorted(web.minimal(sorted(set(chooser.some_of(list(web.parents), 4))))))
                for _ in range(60)
            } - {()})
            for number in range(120):
                tallies = []
                for _ in range(2):
                    chosen = sorted(chooser.some_of(kinds, 4))
                    tallies.append(tuple((kind, 1 + chooser.below(2)) for kind in chosen))
                first, second = bare(rows, tallies[0]), bare(rows, tallies[1])
                if tallies[0] == tallies[1]:
                    self.assertIsNone(parting(first, second))
                else:
                    self.check(first, second, plain_script(rows, *tallies))


if __name__ == "__main__":
    unittest.main()
