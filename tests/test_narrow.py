"""Point 19: narrowing."""

import unittest

from partclones.trees.narrow import narrowed

TREE = {"b/c/d": ["4"], "ab/c": ["6"], "a": ["1"], "ab": ["5"], "a/b": ["2"], "b/c": [], "a/bc": ["3"]}


class NarrowTest(unittest.TestCase):
    def test_folders(self):
        self.assertEqual(narrowed(TREE, ["a"]), {"a": ["1"], "a/b": ["2"], "a/bc": ["3"]})
        self.assertEqual(narrowed(TREE, ["b/c"]), {"b/c": [], "b/c/d": ["4"]})
        self.assertEqual(narrowed(TREE, ["b/c/d", "ab"]), {"ab": ["5"], "ab/c": ["6"], "b/c/d": ["4"]})

    def test_path_that_only_begins_like_a_folder(self):
        self.assertEqual(narrowed({"ab": [], "ab/c": [], "a0": []}, ["a"]), {})
        self.assertEqual(narrowed(TREE, ["a/b"]), {"a/b": ["2"]})

    def test_no_folder(self):
        self.assertEqual(narrowed(TREE, []), {})
        self.assertEqual(narrowed({}, ["a"]), {})

    def test_folder_that_lies_below_the_path(self):
        self.assertEqual(narrowed({"a": ["x"]}, ["a/b"]), {})

    def test_folders_may_overlap_and_repeat(self):
        self.assertEqual(narrowed(TREE, ["b", "b/c", "b", "none"]), {"b/c": [], "b/c/d": ["4"]})

    def test_paths_ascend_and_texts_are_new(self):
        result = narrowed(TREE, ["ab", "a", "b"])
        self.assertEqual(result, TREE)
        self.assertEqual(list(result), sorted(TREE))
        self.assertTrue(all(result[path] is not TREE[path] for path in TREE))


if __name__ == "__main__":
    unittest.main()
