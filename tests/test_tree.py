"""Point 14: trees and their files."""

import unittest

from partclones.errors import BadTree
from partclones.trees.tree import checked_tree, files_of, tree_of


class CheckedTreeTest(unittest.TestCase):
    def refused(self, tree):
        with self.assertRaises(BadTree) as caught:
            checked_tree(tree)
        return (caught.exception.path, caught.exception.place)

    def test_trees(self):
        for tree in ({}, {"f": []}, {"f": ["a"], "g/h": ["", "b"]}, {"f": ["x"] * 40}, {"a": [], "a/b": ["c"]}):
            result = checked_tree(tree)
            self.assertEqual(result, tree)
            self.assertIsNot(result, tree)

    def test_paths_ascend(self):
        result = checked_tree({"g": [], "f/z": [], "f": [], "10": [], "9": []})
        self.assertEqual(list(result), ["10", "9", "f", "f/z", "g"])

    def test_texts_are_new(self):
        tree = {"f": ["a"]}
        result = checked_tree(tree)
        tree["f"].append("b")
        tree["g"] = []
        self.assertEqual(result, {"f": ["a"]})

    def test_eight_and_nine_paths(self):
        eight = {f"p{number}": ["x"] for number in range(8)}
        self.assertEqual(checked_tree(eight), eight)
        self.assertEqual(self.refused({**eight, "p8": []}), ("p8", None))
        self.assertEqual(self.refused({**eight, "a": []}), ("p7", None))
        self.assertEqual(self.refused({f"p{number}": [] for number in range(24)}), ("p16", None))

    def test_key_that_is_no_path(self):
        self.assertEqual(self.refused({"": []}), ("", None))
        self.assertEqual(self.refused({"a": [], "B": []}), ("B", None))
        self.assertEqual(self.refused({"a/b/c/d": []}), ("a/b/c/d", None))

    def test_text_that_is_none(self):
        self.assertEqual(self.refused({"f": ["a", "B"]}), ("f", 1))
        self.assertEqual(self.refused({"f": ["a"] * 41}), ("f", 40))
        self.assertEqual(self.refused({"f": ["a" * 21]}), ("f", 0))

    def test_first_faulty_path_counts(self):
        self.assertEqual(self.refused({"f": ["B"], "e": ["a", "C"]}), ("e", 1))
        self.assertEqual(self.refused({"x": [], "toolong": [], "a": ["a", "a", "A"]}), ("a", 2))
        self.assertEqual(self.refused({"toolong": ["A"]}), ("toolong", None))

    def test_faults_before_and_at_the_ninth_path(self):
        eight = {f"p{number}": ["x"] for number in range(8)}
        self.assertEqual(self.refused({**eight, "p8": ["A"]}), ("p8", None))
        self.assertEqual(self.refused({**eight, "p6": ["x", "A"], "p8": []}), ("p6", 1))
        self.assertEqual(self.refused({**eight, "p7": ["A"], "p8": []}), ("p7", 0))
        self.assertEqual(self.refused({**eight, "A": []}), ("A", None))


class FilesTest(unittest.TestCase):
    def test_files(self):
        self.assertEqual(files_of({}), ())
        self.assertEqual(
            files_of({"g": ["a", "b"], "f": [], "f/a": ["c"]}), (("f", ()), ("f/a", ("c",)), ("g", ("a", "b")))
        )

    def test_tree(self):
        self.assertEqual(tree_of(()), {})
        result = tree_of((("f", ()), ("f/a", ("c",)), ("g", ("a", "b"))))
        self.assertEqual(result, {"f": [], "f/a": ["c"], "g": ["a", "b"]})
        self.assertEqual(list(result), ["f", "f/a", "g"])
        self.assertTrue(all(type(text) is list for text in result.values()))

    def test_there_and_back(self):
        tree = {"g": ["a", "a"], "a": [""], "b": []}
        self.assertEqual(tree_of(files_of(tree)), tree)

    def test_twenty_four_paths(self):
        tree = {f"p{number:02}": ["x"] for number in reversed(range(24))}
        self.assertEqual([path for path, _ in files_of(tree)], sorted(tree))


if __name__ == "__main__":
    unittest.main()
