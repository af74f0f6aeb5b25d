"""Point 15: changes between trees."""

import unittest

from partclones.errors import Misfit
from partclones.trees.changes import apply_changes, tree_changes, undo_changes

OLD = {"a": ["1"], "b": [], "c/d": ["x", "y"], "e": ["same"]}
NEW = {"e": ["same"], "f": [], "c/d": ["x"], "b": ["2"]}
CHANGES = [("a", ("1",), None), ("b", (), ("2",)), ("c/d", ("x", "y"), ("x",)), ("f", None, ())]


class TreeChangesTest(unittest.TestCase):
    def test_changes(self):
        self.assertEqual(tree_changes(OLD, NEW), CHANGES)

    def test_equal_trees(self):
        self.assertEqual(tree_changes({}, {}), [])
        self.assertEqual(tree_changes(OLD, OLD), [])
        self.assertEqual(tree_changes(OLD, dict(reversed(OLD.items()))), [])

    def test_empty_text_is_not_a_lacking_path(self):
        self.assertEqual(tree_changes({}, {"f": []}), [("f", None, ())])
        self.assertEqual(tree_changes({"f": []}, {}), [("f", (), None)])

    def test_ascending_paths(self):
        changes = tree_changes({"z": [], "m": []}, {"b": [], "y": []})
        self.assertEqual([path for path, _, _ in changes], ["b", "m", "y", "z"])


class ApplyChangesTest(unittest.TestCase):
    def refused(self, tree, changes):
        with self.assertRaises(Misfit) as caught:
            apply_changes(tree, changes)
        return caught.exception.place

    def test_leads_from_old_to_new(self):
        result = apply_changes(OLD, CHANGES)
        self.assertEqual(result, NEW)
        self.assertEqual(list(result), ["b", "c/d", "e", "f"])
        self.assertTrue(all(type(text) is list for text in result.values()))

    def test_no_changes_give_a_new_tree(self):
        tree = {"z": ["x"], "a": []}
        result = apply_changes(tree, [])
        self.assertEqual(result, tree)
        self.assertEqual(list(result), ["a", "z"])
        self.assertIsNot(result["z"], tree["z"])

    def test_one_after_the_other(self):
        changes = [("f", None, ("a",)), ("f", ("a",), ("b",)), ("f", ("b",), None), ("f", None, ("c",))]
        self.assertEqual(apply_changes({}, changes), {"f": ["c"]})
        self.assertEqual(apply_changes({}, changes[:3]), {})

    def test_change_that_changes_nothing(self):
        self.assertEqual(apply_changes({"f": ["a"]}, [("f", ("a",), ("a",)), ("g", None, None)]), {"f": ["a"]})

    def test_changes_that_do_not_fit(self):
        self.assertEqual(self.refused({}, [("f", ("a",), None)]), 0)
        self.assertEqual(self.refused({"f": ["a"]}, [("f", None, ("b",))]), 0)
        self.assertEqual(self.refused({"f": []}, [("f", None, ("b",))]), 0)
        self.assertEqual(self.refused({}, [("f", (), ("b",))]), 0)
        self.assertEqual(self.refused({"f": ["a", "b"]}, [("f", ("a",), ("b",))]), 0)

    def test_place_of_the_first_that_does_not_fit(self):
        self.assertEqual(self.refused(OLD, [*CHANGES[:2], ("e", (), None), ("a", ("1",), None)]), 2)
        self.assertEqual(self.refused(OLD, [*CHANGES, CHANGES[0]]), 4)
        self.assertEqual(self.refused({}, [("f", None, ("a",)), ("f", None, ("a",))]), 1)


class UndoChangesTest(unittest.TestCase):
    def test_undone_changes(self):
        self.assertEqual(undo_changes([]), [])
        self.assertEqual(
            undo_changes(CHANGES),
            [("f", (), None), ("c/d", ("x",), ("x", "y")), ("b", ("2",), ()), ("a", None, ("1",))],
        )

    def test_leads_back(self):
        self.assertEqual(apply_changes(NEW, undo_changes(CHANGES)), OLD)

    def test_several_changes_of_one_path(self):
        changes = [("f", None, ("a",)), ("f", ("a",), ("b",)), ("g", None, ()), ("f", ("b",), ("c",))]
        self.assertEqual(apply_changes(apply_changes({}, changes), undo_changes(changes)), {})
        self.assertEqual(undo_changes(undo_changes(changes)), changes)


if __name__ == "__main__":
    unittest.main()
