"""Point 3: nothing that is passed is changed, and nothing that is returned is shared."""

import copy
import unittest

from partclones.closed.closure import closure, rounds
from partclones.closed.gaps import first_gap, gaps, is_closed
from partclones.closed.peel import is_free, peel
from partclones.closed.steps import derivation, takes_steps
from partclones.closed.table import table, takes_table
from partclones.histories.inverse import group_reaches, tally_from
from partclones.histories.tally import moved_tally, reach_of
from partclones.texts.chunks import text_chunks
from partclones.texts.edits import apply_edits, inverse_edits, text_edits
from partclones.texts.lines import checked_text
from partclones.texts.matching import matched
from partclones.texts.mergetext import merge_texts
from partclones.trees.changes import apply_changes, tree_changes, undo_changes
from partclones.trees.choose import chosen_text, chosen_tree
from partclones.trees.mergetree import merge_trees
from partclones.trees.narrow import narrowed
from partclones.trees.puts import put_tree, puts_between
from partclones.trees.tree import checked_tree, files_of, tree_of
from partclones.webs.baselists import base_lists
from partclones.webs.bases import common, group_bases, maximal, merge_bases
from partclones.webs.basetree import base_tree
from partclones.webs.restrict import restricted
from support import CRISS_CROSS, make_order, spoil

TEXT = ["a", "b", "c"]
OTHER = ["b", "x", "c", "d"]
THIRD = ["a", "y", "c"]
EDITS = [(0, ("a",), ()), (2, (), ("x",))]
TREE = {"z": ["1"], "a": ["a", "b"], "f": [], "m": ["0"]}
NEWER = {"m": ["2"], "a": ["a", "c"], "g": ["3"]}
BASE = {"z": ["0"], "a": ["a"]}
CHANGES = [("a", ("a", "b"), ("a", "c")), ("f", (), None), ("k", None, ("5",))]
PUTS = [("a", ("q",)), ("z", None), ("n", ())]
TREES = {"r": TREE, "a": NEWER, "b": BASE, "c": {}, "d": {}}

PLAIN_CALLS = [
    (checked_text, TEXT),
    (matched, TEXT, OTHER),
    (text_edits, TEXT, OTHER),
    (apply_edits, TEXT, EDITS),
    (apply_edits, TEXT, []),
    (inverse_edits, EDITS),
    (text_chunks, TEXT, OTHER, THIRD),
    (merge_texts, TEXT, OTHER, THIRD),
    (merge_texts, TEXT, TEXT, TEXT),
    (checked_tree, TREE),
    (files_of, TREE),
    (tree_of, files_of(TREE)),
    (tree_changes, TREE, NEWER),
    (apply_changes, TREE, CHANGES),
    (apply_changes, TREE, []),
    (undo_changes, CHANGES),
    (puts_between, TREE, NEWER),
    (put_tree, TREE, PUTS),
    (put_tree, TREE, tuple(PUTS)),
    (put_tree, TREE, []),
    (chosen_text, TEXT, [OTHER, None, OTHER]),
    (chosen_text, TEXT, [OTHER, TEXT]),
    (chosen_text, TEXT, []),
    (chosen_tree, BASE, [TREE, NEWER]),
    (chosen_tree, BASE, []),
    (merge_trees, BASE, TREE, NEWER),
    (merge_trees, TREE, TREE, TREE),
    (narrowed, TREE, ["a", "m", "q"]),
]


def fresh(value):
    """A copy of a value in which every list and dict is new."""
    return copy.deepcopy(value)


class PlainCallsTest(unittest.TestCase):
    def test_arguments_are_not_changed(self):
        for call, *arguments in PLAIN_CALLS:
            with self.subTest(call.__name__):
                passed = fresh(arguments)
                call(*passed)
                self.assertEqual(passed, arguments)
                for one, other in zip(passed, arguments):
                    if isinstance(one, dict):
                        self.assertEqual(list(one), list(other))

    def test_spoiling_the_result_leaves_the_arguments(self):
        for call, *arguments in PLAIN_CALLS:
            with self.subTest(call.__name__):
                passed = fresh(arguments)
                spoil(call(*passed))
                self.assertEqual(passed, arguments)

    def test_spoiling_the_arguments_leaves_the_result(self):
        for call, *arguments in PLAIN_CALLS:
            with self.subTest(call.__name__):
                passed = fresh(arguments)
                result = call(*passed)
                before = fresh(result)
                spoil(passed)
                self.assertEqual(result, before)

    def test_calls_again_after_spoiling_give_the_same(self):
        for call, *arguments in PLAIN_CALLS:
            with self.subTest(call.__name__):
                first = call(*fresh(arguments))
                before = fresh(first)
                spoil(first)
                self.assertEqual(call(*fresh(arguments)), before)

    def test_parts_of_a_result_are_not_shared(self):
        for call, *arguments in PLAIN_CALLS:
            with self.subTest(call.__name__):
                result = call(*fresh(arguments))
                places = []
                self.gather(result, places)
                self.assertEqual(len(set(places)), len(places))

    def gather(self, value, places):
        if isinstance(value, (list, dict)):
            places.append(id(value))
        if isinstance(value, dict):
            value = list(value.values())
        if isinstance(value, (list, tuple)):
            for inner in value:
                self.gather(inner, places)


class SharedTextTest(unittest.TestCase):
    def test_one_text_object_at_several_paths(self):
        text = ["x"]
        tree = {"a": text, "b": text}
        for result in (
            checked_tree(tree),
            apply_changes(tree, []),
            put_tree(tree, []),
            chosen_tree({}, [tree]),
            chosen_tree(tree, []),
            merge_trees({}, tree, tree)[0],
            narrowed(tree, ["a", "b"]),
            base_tree(make_order([("a", [])]), {"a": tree}, ["a"], ["a"]),
        ):
            result["a"].append("y")
            self.assertEqual(result["b"], ["x"])
            self.assertEqual(text, ["x"])


class OrderCallsTest(unittest.TestCase):
    def picture(self, order):
        return [(name, order.under(name)) for name in order]

    def test_order_and_groups_are_not_changed(self):
        order = make_order(CRISS_CROSS)
        before = self.picture(order)
        calls = (
            (maximal, ["d", "a", "c"]),
            (common, ["d", "a"], ["c"]),
            (group_bases, ["d", "a"], ["c", "b"]),
            (merge_bases, "d", "c"),
            (restricted, ["d", "r"]),
        )
        for call, *arguments in calls:
            with self.subTest(call.__name__):
                passed = fresh(arguments)
                result = call(order, *passed)
                self.assertEqual(passed, arguments)
                spoil(result)
                spoil(passed)
                self.assertEqual(self.picture(order), before)

    def test_closed_sets_and_tallies(self):
        order = make_order(CRISS_CROSS)
        before = self.picture(order)
        whole = ["r", "d", "b", "c", "a"]
        tally = ((("a", "b"), 2), (("c",), 3))
        calls = (
            *[(first_gap, ["d", "c"]), (is_closed, ["d", "c"]), (closure, ["d", "c"])],
            *[(derivation, ["d", "c"]), (takes_steps, ["d", "c"], [("b", "d", "c"), ("a", "c", "d")])],
            *[(table, whole), (takes_table, whole, table(order, whole)), (is_free, whole, "a")],
            *[(moved_tally, tally, ["d", "c"]), (reach_of, tally, ["d", "b"])],
            *[(group_reaches, tally), (tally_from, group_reaches(order, tally))],
        )
        for call, *arguments in calls:
            with self.subTest(call.__name__):
                passed = fresh(arguments)
                result = call(order, *passed)
                self.assertEqual(passed, arguments)
                first = fresh(result)
                spoil(passed)
                self.assertEqual(result, first)
                spoil(result)
                self.assertEqual(call(order, *fresh(arguments)), first)
                self.assertEqual(self.picture(order), before)

    def test_gaps_rounds_and_peeling(self):
        order = make_order(CRISS_CROSS)
        before = self.picture(order)
        whole = ["r", "d", "b", "c", "a"]
        for call, *arguments in (
            (gaps, ["d", "c"]),
            (rounds, ["d", "c"]),
            (peel, whole, ["b", "a"], whole),
            (peel, whole, [], whole),
        ):
            with self.subTest(call.__name__):
                passed = fresh(arguments)
                result = list(call(order, *passed))
                self.assertEqual(passed, arguments)
                first = fresh(result)
                spoil(result)
                spoil(passed)
                self.assertEqual(list(call(order, *fresh(arguments))), first)
                self.assertEqual(self.picture(order), before)

    def test_base_lists(self):
        order = make_order(CRISS_CROSS)
        before = self.picture(order)
        ones, others = ["d"], ["c"]
        found = list(base_lists(order, ones, others))
        self.assertEqual((ones, others), (["d"], ["c"]))
        spoil(found)
        self.assertEqual(self.picture(order), before)
        self.assertEqual(list(base_lists(order, ones, others)), [["a", "b"], ["r"]])

    def test_base_tree(self):
        order = make_order(CRISS_CROSS)
        before = self.picture(order)
        for ones, others in ((["d"], ["c"]), (["a"], ["b"]), (["a"], ["a"])):
            trees = fresh(TREES)
            ones_passed, others_passed = list(ones), list(others)
            result = base_tree(order, trees, ones_passed, others_passed)
            first = fresh(result)
            self.assertEqual((trees, ones_passed, others_passed), (TREES, ones, others))
            spoil(result)
            self.assertEqual(trees, TREES)
            result = base_tree(order, trees, ones, others)
            spoil(trees)
            self.assertEqual(result, first)
            self.assertEqual(self.picture(order), before)


if __name__ == "__main__":
    unittest.main()
