"""Points 32 to 34, 36 and 37: histories."""

import unittest

from partclones.errors import BadName, BadTree, Repeated, Taken, TooLarge, Unknown
from partclones.histories.history import History
from partclones.trees.mergetree import merge_trees
from partclones.webs.basetree import base_tree
from partclones.webs.order import Order
from support import CRISS_CROSS, Grown, Web, criss_cross, example, is_plain, make_order, spoil


class Case(unittest.TestCase):
    def refused(self, history, error, call, *arguments):
        """The error of a call that is refused and changes nothing."""
        before = history.facts()
        with self.assertRaises(error) as caught:
            call(*arguments)
        self.assertEqual(history.facts(), before)
        return caught.exception


class CommitTest(Case):
    def test_a_new_history(self):
        history = History()
        self.assertEqual(history.names(), [])
        self.assertEqual(history.tally(), ())
        self.assertEqual(history.facts(), ((), ()))
        self.assertEqual(history.order().names(), [])
        self.assertIs("a" in history, False)
        self.assertEqual(history.reach([]), 0)

    def test_commit(self):
        history = History()
        self.assertIsNone(history.commit("b", [], {"g": [], "f": ["a"]}))
        self.assertIsNone(history.commit("a", ["b"], {}))
        self.assertEqual(history.names(), ["a", "b"])
        self.assertIs("a" in history, True)
        for word in ("", "c", "NO"):
            self.assertIs(word in history, False)
        self.assertEqual(list(history.tree("b").items()), [("f", ["a"]), ("g", [])])
        self.assertEqual(history.tree("a"), {})
        self.assertIs(history.is_under("b", "a"), True)
        self.assertIs(history.is_under("a", "b"), False)

    def test_origins_of_a_path_that_the_first_parent_lacks(self):
        history = History()
        history.commit("p", [], {"f": ["a"]})
        history.commit("q", [], {"f": ["a"], "g": ["b", "c"]})
        history.commit("n", ["p", "q"], {"f": ["a"], "g": ["b", "x"], "h": ["b"]})
        self.assertEqual(history.origins("n"), {"f": ["p"], "g": ["q", "n"], "h": ["n"]})

    def test_origins_of_parents_in_another_order(self):
        history = History()
        history.commit("p", [], {"f": ["a", "b"]})
        history.commit("q", [], {"f": ["b", "c"]})
        history.commit("m", ["p", "q"], {"f": ["a", "b", "c"]})
        history.commit("n", ["q", "p"], {"f": ["a", "b", "c"]})
        self.assertEqual(history.origins("m"), {"f": ["p", "p", "q"]})
        self.assertEqual(history.origins("n"), {"f": ["p", "q", "q"]})

    def test_origins_of_equal_lines(self):
        history = History()
        history.commit("p", [], {"f": ["a", "a"]})
        history.commit("q", ["p"], {"f": ["a", "x", "a", "a"]})
        self.assertEqual(history.origins("q"), {"f": ["p", "q", "p", "q"]})

    def test_origins_go_back_over_several_versions(self):
        history = example()
        history.commit("n", ["m"], {"f": ["b", "e", "c", "d"]})
        self.assertEqual(history.origins("n"), {"f": ["r", "n", "r", "x"]})
        # A line that was taken out and comes again is a new one.
        history.commit("o", ["y"], {"f": ["a", "b"]})
        self.assertEqual(history.origins("o"), {"f": ["o", "r"]})

    def test_origins_of_an_empty_text(self):
        history = History()
        history.commit("p", [], {"f": [], "g": ["a"]})
        history.commit("q", ["p"], {"f": ["a"], "g": []})
        self.assertEqual(history.origins("p"), {"f": [], "g": ["p"]})
        self.assertEqual(history.origins("q"), {"f": ["q"], "g": []})

    def test_origins_have_ascending_paths(self):
        history = History()
        history.commit("p", [], {"z": ["a"], "b/c": [], "f": ["x"]})
        self.assertEqual(list(history.origins("p")), ["b/c", "f", "z"])
        self.assertEqual(list(history.tree("p")), ["b/c", "f", "z"])

    def test_refused_names(self):
        history = example()
        for name in ("", "NO", "1a", "abcdefg", "a b", "a/b"):
            error = self.refused(history, BadName, history.commit, name, ["q"], {"NO": []})
            self.assertEqual(error.name, name)
        for name in ("r", "m"):
            error = self.refused(history, Taken, history.commit, name, ["q"], {"NO": []})
            self.assertEqual(error.name, name)

    def test_refused_parents(self):
        history = example()
        for error, parents, name in (
            (Unknown, ["q", "r"], "q"),
            (Unknown, ["n"], "n"),
            (Repeated, ["x", "x", "q"], "x"),
        ):
            found = self.refused(history, error, history.commit, "n", parents, {"NO": []})
            self.assertEqual(found.name, name)
        self.assertIs("n" in history, False)

    def test_refused_trees(self):
        history = example()
        for tree, path, place in (
            ({"f": ["a"], "NO": []}, "NO", None),
            ({"f": ["a", "A"]}, "f", 1),
            ({"f": ["a"] * 41}, "f", 40),
            ({f"p{number}": [] for number in range(9)}, "p8", None),
        ):
            error = self.refused(history, BadTree, history.commit, "n", ["m"], tree)
            self.assertEqual((error.path, error.place), (path, place))
        history.commit("n", ["m"], {f"p{number}": ["a"] * 40 for number in range(8)})
        self.assertEqual(len(history.tree("n")), 8)


class MergeTest(Case):
    def test_merge(self):
        history = example()
        self.assertEqual(history.merge("n", "x", "y"), [])
        self.assertEqual(history.tree("n"), {"f": ["b", "c", "d"]})
        self.assertEqual(history.origins("n"), {"f": ["r", "r", "x"]})
        self.assertEqual(history.order().nearest("n"), ["x", "y"])

    def test_the_first_one_is_ours_and_the_first_parent(self):
        history = History()
        history.commit("r", [], {"f": ["a"]})
        history.commit("x", ["r"], {"f": ["b"]})
        history.commit("y", ["r"], {"f": ["c"]})
        clash = ["<<<<<<<", "c", "|||||||", "a", "=======", "b", ">>>>>>>"]
        self.assertEqual(history.merge("m", "y", "x"), [("f", 1)])
        self.assertEqual(history.tree("m"), {"f": clash})
        self.assertEqual(history.origins("m"), {"f": ["m", "y", "m", "m", "m", "x", "m"]})
        # What both have is taken from the first parent.
        history.commit("u", ["r"], {"f": ["a", "n"]})
        history.commit("v", ["r"], {"f": ["a", "n"]})
        history.merge("w", "v", "u")
        self.assertEqual(history.origins("w"), {"f": ["r", "v"]})

    def test_one_is_under_the_other(self):
        history = example()
        self.assertEqual(history.merge("n", "r", "m"), [])
        self.assertEqual(history.tree("n"), history.tree("m"))
        self.assertEqual(history.merge("o", "m", "r"), [])
        self.assertEqual(history.tree("o"), history.tree("m"))
        self.assertEqual(history.order().nearest("o"), ["m"])

    def test_two_merge_bases(self):
        history = criss_cross(
            r={"f": ["r"], "g": ["r"]},
            a={"f": ["a"], "g": ["r"]},
            b={"f": ["r"], "g": ["b"]},
            c={"f": ["c"], "g": ["b"]},
            d={"f": ["a"], "g": ["d"]},
        )
        self.assertEqual(history.bases("c", "d"), ["a", "b"])
        self.assertEqual(history.base("c", "d"), {"f": ["a"], "g": ["b"]})
        self.assertEqual(history.merge("e", "c", "d"), [])
        self.assertEqual(history.tree("e"), {"f": ["c"], "g": ["d"]})

    def test_no_merge_base(self):
        history = History()
        history.commit("p", [], {"f": ["a"]})
        history.commit("q", [], {"f": ["b"], "g": ["c"]})
        self.assertEqual(history.merge("m", "p", "q"), [("f", 1)])
        self.assertEqual(
            history.tree("m"), {"f": ["<<<<<<<", "a", "|||||||", "=======", "b", ">>>>>>>"], "g": ["c"]}
        )

    def test_too_large(self):
        history = History()
        history.commit("r", [], {})
        history.commit("x", ["r"], {f"p{number}": [] for number in range(5)})
        history.commit("y", ["r"], {f"q{number}": [] for number in range(4)})
        error = self.refused(history, TooLarge, history.merge, "m", "x", "y")
        self.assertEqual(error.path, "q3")
        history.commit("u", [], {"f": ["a"] * 20})
        history.commit("v", [], {"f": ["b"] * 20})
        error = self.refused(history, TooLarge, history.merge, "m", "u", "v")
        self.assertEqual(error.path, "f")
        self.assertIs("m" in history, False)

    def test_refused(self):
        history = example()
        for error, arguments, name in (
            (BadName, ("NO", "q", "q"), "NO"),
            (Taken, ("m", "q", "q"), "m"),
            (Unknown, ("n", "q", "q"), "q"),
            (Unknown, ("n", "x", "q"), "q"),
            (Unknown, ("n", "o", "q"), "o"),
            (Repeated, ("n", "x", "x"), "x"),
        ):
            found = self.refused(history, error, history.merge, *arguments)
            self.assertEqual(found.name, name)


class PickTest(Case):
    def test_pick(self):
        history = example()
        self.assertEqual(history.pick("n", "r", "x", "y"), [])
        self.assertEqual(history.tree("n"), {"f": ["b", "c", "d"]})
        self.assertEqual(history.order().nearest("n"), ["y"])
        # The only parent is the version onto which the change is carried.
        self.assertEqual(history.origins("n"), {"f": ["r", "r", "n"]})

    def test_the_change_is_taken_back(self):
        history = example()
        self.assertEqual(history.pick("n", "x", "r", "m"), [])
        self.assertEqual(history.tree("n"), {"f": ["b", "c"]})

    def test_onto_is_ours(self):
        history = History()
        history.commit("p", [], {"f": ["a"]})
        history.commit("q", [], {"f": ["b"]})
        history.commit("r", [], {"f": ["c"]})
        self.assertEqual(history.pick("n", "p", "q", "r"), [("f", 1)])
        self.assertEqual(history.tree("n"), {"f": ["<<<<<<<", "c", "|||||||", "a", "=======", "b", ">>>>>>>"]})
        self.assertEqual(history.origins("n"), {"f": ["n", "r", "n", "n", "n", "n", "n"]})
        self.assertEqual(history.order().nearest("n"), ["r"])

    def test_versions_alike(self):
        history = example()
        history.pick("a", "x", "x", "y")
        self.assertEqual(history.tree("a"), history.tree("y"))
        history.pick("b", "r", "x", "r")
        self.assertEqual(history.tree("b"), history.tree("x"))
        history.pick("c", "r", "x", "x")
        self.assertEqual(history.tree("c"), history.tree("x"))
        history.pick("d", "x", "x", "x")
        self.assertEqual(history.tree("d"), history.tree("x"))
        self.assertEqual(history.origins("d"), history.origins("x"))
        self.assertEqual([history.order().nearest(name) for name in "abcd"], [["y"], ["r"], ["x"], ["x"]])

    def test_too_large(self):
        history = History()
        history.commit("p", [], {})
        history.commit("q", [], {f"q{number}": [] for number in range(5)})
        history.commit("o", [], {f"o{number}": [] for number in range(4)})
        error = self.refused(history, TooLarge, history.pick, "n", "p", "q", "o")
        self.assertEqual(error.path, "q4")

    def test_refused(self):
        history = example()
        for error, arguments, name in (
            (BadName, ("", "q", "q", "q"), ""),
            (Taken, ("y", "q", "q", "q"), "y"),
            (Unknown, ("n", "q", "o", "p"), "q"),
            (Unknown, ("n", "r", "o", "p"), "o"),
            (Unknown, ("n", "r", "x", "p"), "p"),
            (Unknown, ("n", "r", "x", "n"), "n"),
        ):
            found = self.refused(history, error, history.pick, *arguments)
            self.assertEqual(found.name, name)


class AskedTest(Case):
    def test_bases_and_base(self):
        history = criss_cross(r={"f": ["r"]}, a={"f": ["a"]})
        self.assertEqual(history.bases("d", "c"), ["a", "b"])
        self.assertEqual(history.bases("c", "c"), ["c"])
        self.assertEqual(history.base("a", "c"), {"f": ["a"]})
        self.assertEqual(history.base("a", "a"), {"f": ["a"]})

    def test_reach_and_lead(self):
        history = example()
        self.assertEqual([history.reach([name]) for name in "mrxy"], [4, 1, 2, 2])
        self.assertEqual(history.reach(["y", "x"]), 3)
        self.assertEqual(history.reach([]), 0)
        self.assertEqual(history.lead("m", "x"), 2)
        self.assertEqual(history.lead("x", "m"), 0)
        self.assertEqual(history.lead("x", "y"), 1)
        self.assertEqual(history.lead("x", "x"), 0)

    def test_reach_and_lead_with_forgotten_versions(self):
        rows = tuple((name, nearest, (), ()) for name, nearest in (("a", ()), ("b", ()), ("c", ("a",))))
        history = History.of((rows, ((("a",), 2), (("a", "b"), 5), (("b", "c"), 11), (("c",), 17))))
        self.assertEqual(history.reach(["a"]), 8)
        self.assertEqual(history.reach(["b"]), 17)
        self.assertEqual(history.reach(["c"]), 2 + 2 + 5 + 11 + 17)
        self.assertEqual(history.reach(["b", "a"]), 20)
        self.assertEqual(history.reach(["b", "c"]), 38)
        self.assertEqual(history.lead("a", "b"), 1 + 2)
        self.assertEqual(history.lead("b", "a"), 1 + 11)
        self.assertEqual(history.lead("c", "b"), 2 + 2 + 17)
        self.assertEqual(history.lead("b", "c"), 1)
        self.assertEqual(history.lead("c", "a"), 1 + 11 + 17)
        self.assertEqual(history.lead("a", "c"), 0)
        self.assertEqual(history.lead("c", "c"), 0)

    def test_refused(self):
        history = example()
        for call, *arguments in (
            (history.tree, "q"),
            (history.origins, "q"),
            (history.is_under, "q", "o"),
            (history.is_under, "x", "q"),
            (history.bases, "q", "o"),
            (history.bases, "x", "q"),
            (history.base, "q", "o"),
            (history.base, "x", "q"),
            (history.lead, "q", "o"),
            (history.lead, "x", "q"),
            (history.reach, ["x", "q", "x"]),
        ):
            self.assertEqual(self.refused(history, Unknown, call, *arguments).name, "q")
        self.assertEqual(self.refused(history, Repeated, history.reach, ["x", "y", "y", "q"]).name, "y")

    def test_order(self):
        history = criss_cross()
        order = history.order()
        self.assertIs(type(order), Order)
        expected = make_order(CRISS_CROSS)
        self.assertEqual(order.names(), expected.names())
        for name in order:
            self.assertEqual(order.under(name), expected.under(name))
            self.assertEqual(order.nearest(name), expected.nearest(name))
        order.put("e", ["a"])
        self.assertEqual(history.names(), ["a", "b", "c", "d", "r"])
        history.commit("e", [], {})
        self.assertEqual(order.under("e"), ["a", "e", "r"])
        self.assertEqual(history.order().under("e"), ["e"])

    def test_grown_histories_against_the_definitions(self):
        for seed in range(4):
            grown = Grown(seed).grow(20)
            history, web = grown.history, grown.web()
            order, names = history.order(), history.names()
            trees = {name: history.tree(name) for name in names}
            self.assertEqual(names, sorted(web.parents))
            for x in names:
                for y in names:
                    self.assertIs(history.is_under(x, y), web.is_under(x, y))
                    self.assertEqual(history.bases(x, y), web.group_bases([x], [y]))
                    self.assertEqual(history.base(x, y), base_tree(order, trees, [x], [y]))
                    lower, others = web.under(x), web.under(y)
                    self.assertEqual(history.lead(x, y), len(lower - others))
                    self.assertEqual(history.reach([x]), len(lower))

    def test_merges_and_picks_of_a_grown_history(self):
        grown = Grown(7).grow(12)
        history = grown.history
        names = history.names()
        for x in names:
            for y in names:
                for base, call in ((history.base(x, y), "merge"), (history.tree(names[0]), "pick")):
                    copy = history.copied()
                    if call == "merge" and x == y:
                        continue
                    arguments = (x, y) if call == "merge" else (names[0], y, x)
                    try:
                        tree, clashes = merge_trees(base, history.tree(x), history.tree(y))
                    except TooLarge as error:
                        found = self.refused(copy, TooLarge, getattr(copy, call), "new", *arguments)
                        self.assertEqual(found.path, error.path)
                        continue
                    self.assertEqual(getattr(copy, call)("new", *arguments), clashes)
                    self.assertEqual(copy.tree("new"), tree)
                    plain = history.copied()
                    plain.commit("new", [x, y] if call == "merge" else [x], tree)
                    self.assertEqual(plain.facts(), copy.facts())


class FactsTest(Case):
    def test_facts(self):
        history = History()
        history.commit("z", [], {"g": [], "f": ["a"]})
        history.commit("a", ["z"], {"f": ["a", ""]})
        history.commit("b", ["a", "z"], {})
        self.assertEqual(
            history.facts(),
            (
                (
                    ("a", ("z",), (("f", ("a", "")),), (("f", ("z", "a")),)),
                    ("b", ("a",), (), ()),
                    ("z", (), (("f", ("a",)), ("g", ())), (("f", ("z",)), ("g", ()))),
                ),
                (),
            ),
        )

    def test_facts_are_plain_tuples(self):
        for seed in range(3):
            self.assertTrue(is_plain(Grown(seed).grow(12).history.facts()))
        self.assertTrue(is_plain(example().tally()))

    def test_nearest_versions_ascend(self):
        facts = criss_cross().facts()
        self.assertEqual([row[:2] for row in facts[0]], [
            ("a", ("r",)), ("b", ("r",)), ("c", ("a", "b")), ("d", ("a", "b")), ("r", ()),
        ])

    def test_history_of_facts(self):
        for seed in range(4):
            history = Grown(seed).grow(20).history
            facts = history.facts()
            again = History.of(facts)
            self.assertIs(type(again), History)
            self.assertEqual(again.facts(), facts)
            for name in history.names():
                self.assertEqual(again.tree(name), history.tree(name))
                self.assertEqual(again.origins(name), history.origins(name))
                self.assertEqual(again.order().under(name), history.order().under(name))
        self.assertEqual(History.of(((), ())).facts(), ((), ()))

    def test_history_of_facts_with_a_tally(self):
        rows = (("a", ("z",), (("f", ("a",)),), (("f", ("gone",)),)), ("z", (), (("g", ()),), (("g", ()),)))
        tally = ((("a",), 3), (("z",), 1))
        history = History.of((rows, tally))
        self.assertEqual(history.facts(), (rows, tally))
        self.assertEqual(history.tally(), tally)
        self.assertEqual(history.origins("a"), {"f": ["gone"]})
        self.assertEqual(history.reach(["a"]), 6)
        # The name of a forgotten version is free again.
        self.assertIs("gone" in history, False)
        history.commit("gone", ["a"], {"f": ["a", "b"]})
        self.assertEqual(history.origins("gone"), {"f": ["gone", "gone"]})
        self.assertEqual(history.tally(), tally)
        self.assertEqual(history.reach(["gone"]), 7)

    def test_copied(self):
        history = example()
        copy = history.copied()
        self.assertIs(type(copy), History)
        self.assertIsNot(copy, history)
        self.assertEqual(copy.facts(), history.facts())
        copy.commit("n", ["m"], {"f": ["b", "x"]})
        history.commit("o", ["r"], {"g": []})
        self.assertEqual(copy.names(), ["m", "n", "r", "x", "y"])
        self.assertEqual(history.names(), ["m", "o", "r", "x", "y"])
        # Both may have a version of the same name that has nothing to do with the other one.
        history.commit("n", [], {"h": ["z"]})
        self.assertEqual([history.reach(["n"]), copy.reach(["n"])], [1, 5])
        self.assertEqual([history.tree("n"), copy.tree("n")], [{"h": ["z"]}, {"f": ["b", "x"]}])
        self.assertEqual([history.origins("n"), copy.origins("n")], [{"h": ["n"]}, {"f": ["r", "n"]}])
        tally = ((("r",), 4),)
        forgetful = History.of((history.facts()[0], tally))
        self.assertEqual(forgetful.copied().facts(), forgetful.facts())


class UnchangedTest(Case):
    def test_what_is_passed_is_neither_changed_nor_kept(self):
        history = History()
        tree, parents = {"z": ["a"], "f": ["b"]}, []
        history.commit("r", parents, tree)
        self.assertEqual((list(tree.items()), parents), ([("z", ["a"]), ("f", ["b"])], []))
        before = history.facts()
        spoil(tree)
        spoil(parents)
        self.assertEqual(history.facts(), before)
        names = ["r"]
        history.reach(names)
        self.assertEqual(names, ["r"])

    def test_what_is_returned_is_new(self):
        history = example()
        history.commit("u", ["r"], {"f": ["z"]})
        before = history.facts()
        for result in (
            *[history.names(), history.tree("m"), history.origins("m"), history.bases("x", "y")],
            *[history.base("x", "y"), history.base("x", "x"), history.order().names()],
        ):
            spoil(result)
            self.assertEqual(history.facts(), before)
        spoil(history.merge("v", "u", "x"))
        spoil(history.pick("w", "r", "u", "x"))
        self.assertEqual(history.copied().facts(), history.facts())

    def test_results_that_were_kept_do_not_change(self):
        history = example()
        names, order, facts = history.names(), history.order(), history.facts()
        history.commit("n", ["m"], {})
        self.assertEqual((names, order.names()), (["m", "r", "x", "y"], ["m", "r", "x", "y"]))
        self.assertEqual(len(facts[0]), 4)

    def test_a_history_and_its_copy_share_nothing_that_can_change(self):
        history = example()
        copy = history.copied()
        before = copy.facts()
        spoil(history.tree("m"))
        spoil(history.origins("m"))
        history.merge("n", "x", "m")
        spoil(history.tree("n"))
        self.assertEqual(copy.facts(), before)

    def test_web_of_the_rows_is_that_of_the_history(self):
        grown = Grown(3).grow(15)
        self.assertEqual(sorted(Web(grown.rows).parents), grown.history.names())


if __name__ == "__main__":
    unittest.main()
