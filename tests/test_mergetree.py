"""Point 18: the merge of three trees."""

import unittest

from partclones.errors import TooLarge
from partclones.texts.mergetext import merge_texts
from partclones.trees.mergetree import merge_trees

CLASH = ["<<<<<<<", "x", "|||||||", "b", "=======", "y", ">>>>>>>"]


class MergeTreesTest(unittest.TestCase):
    def merged(self, b, x, y):
        """The merge at one path, where None stands for a tree without it."""
        trees = [{} if text is None else {"f": text} for text in (b, x, y)]
        return merge_trees(*trees)

    def test_empty_trees(self):
        self.assertEqual(merge_trees({}, {}, {}), ({}, []))

    def test_equal_sides(self):
        self.assertEqual(self.merged(["b"], ["x"], ["x"]), ({"f": ["x"]}, []))
        self.assertEqual(self.merged(None, ["x"], ["x"]), ({"f": ["x"]}, []))
        self.assertEqual(self.merged(["b"], None, None), ({}, []))
        self.assertEqual(self.merged(None, [], []), ({"f": []}, []))

    def test_only_our_side_changed(self):
        self.assertEqual(self.merged(["b"], ["x"], ["b"]), ({"f": ["x"]}, []))
        self.assertEqual(self.merged(["b"], None, ["b"]), ({}, []))
        self.assertEqual(self.merged(None, ["x"], None), ({"f": ["x"]}, []))

    def test_only_their_side_changed(self):
        self.assertEqual(self.merged(["b"], ["b"], ["y"]), ({"f": ["y"]}, []))
        self.assertEqual(self.merged(["b"], ["b"], None), ({}, []))
        self.assertEqual(self.merged(None, None, ["y"]), ({"f": ["y"]}, []))

    def test_merged_texts_without_clash(self):
        self.assertEqual(
            self.merged(["a", "b", "c"], ["x", "b", "c"], ["a", "b", "y"]), ({"f": ["x", "b", "y"]}, [])
        )

    def test_merged_texts_with_clashes(self):
        self.assertEqual(self.merged(["b"], ["x"], ["y"]), ({"f": CLASH}, [("f", 1)]))
        base, ours, theirs = ["1", "k", "2"], ["a", "k", "b"], ["c", "k", "d"]
        self.assertEqual(self.merged(base, ours, theirs), ({"f": merge_texts(base, ours, theirs)[0]}, [("f", 2)]))

    def test_lacking_base_counts_as_the_empty_text(self):
        self.assertEqual(self.merged(None, ["x"], ["y"]), ({"f": merge_texts([], ["x"], ["y"])[0]}, [("f", 1)]))
        self.assertEqual(self.merged(None, ["x"], []), ({"f": ["x"]}, []))
        self.assertEqual(self.merged(None, [], ["y"]), ({"f": ["y"]}, []))

    def test_one_side_lacks_the_path_that_the_other_changed(self):
        self.assertEqual(self.merged(["b"], None, ["y"]), ({"f": ["y"]}, [("f", 0)]))
        self.assertEqual(self.merged(["b"], ["x"], None), ({"f": ["x"]}, [("f", 0)]))
        self.assertEqual(self.merged(["b"], [], None), ({"f": []}, [("f", 0)]))
        self.assertEqual(self.merged([], None, ["y"]), ({"f": ["y"]}, [("f", 0)]))

    def test_paths_and_clashes_ascend(self):
        base = {path: ["b"] for path in ("z", "a", "m", "k")}
        ours = {"m": ["x"], "z": ["x"], "a": ["x"], "n": ["new"]}
        theirs = {"a": ["y"], "z": ["y"], "k": ["y"], "b": ["new"]}
        result, clashes = merge_trees(base, ours, theirs)
        self.assertEqual(clashes, [("a", 1), ("k", 0), ("m", 0), ("z", 1)])
        self.assertEqual(list(result), ["a", "b", "k", "m", "n", "z"])
        self.assertEqual(result["a"], CLASH)

    def test_result_is_new(self):
        text = ["x"]
        result = merge_trees({}, {"f": text}, {"f": text})[0]
        self.assertIsNot(result["f"], text)


class TooLargeTest(unittest.TestCase):
    def refused(self, base, ours, theirs):
        with self.assertRaises(TooLarge) as caught:
            merge_trees(base, ours, theirs)
        return caught.exception.path

    def test_forty_and_forty_one_lines(self):
        base = {"f": ["a"]}
        ours = {"f": ["x"] * 19 + ["a"]}
        self.assertEqual(len(merge_trees(base, ours, {"f": ["a"] + ["y"] * 20})[0]["f"]), 40)
        self.assertEqual(self.refused(base, ours, {"f": ["a"] + ["y"] * 21}), "f")

    def test_clash_lines_count(self):
        ours = {"f": [f"o{place}" for place in range(18)]}
        merged, clashes = merge_trees({}, ours, {"f": [f"t{place}" for place in range(18)]})
        self.assertEqual((len(merged["f"]), clashes), (40, [("f", 1)]))
        self.assertEqual(self.refused({}, ours, {"f": [f"t{place}" for place in range(19)]}), "f")

    def test_eight_and_nine_paths(self):
        eight = {f"p{number}": ["x"] for number in range(8)}
        self.assertEqual(merge_trees({}, eight, {}), (eight, []))
        self.assertEqual(self.refused({}, eight, {"p8": []}), "p8")
        self.assertEqual(self.refused({}, eight, {"a": []}), "p7")
        self.assertEqual(self.refused({}, {f"p{number:02}": [] for number in range(24)}, {}), "p08")

    def test_paths_left_out_do_not_count(self):
        base = {f"b{number}": ["x"] for number in range(5)}
        eight = {f"p{number}": ["x"] for number in range(8)}
        self.assertEqual(merge_trees(base, {**base, **eight}, eight), (eight, []))
        self.assertEqual(self.refused(base, {**base, **eight}, {**eight, "p8": []}), "p8")
        self.assertEqual(merge_trees({**eight, "q": ["x"]}, {**eight, "q": ["x"]}, eight), (eight, []))

    def test_first_path_counts(self):
        base, ours, theirs = ["a"], ["x"] * 30 + ["a"], ["a"] + ["y"] * 30
        eight = {f"p{number}": ["x"] for number in range(8)}
        nine = {**eight, "p8": ["x"]}
        self.assertEqual(self.refused({"z": base}, {**nine, "z": ours}, {"z": theirs}), "p8")
        self.assertEqual(self.refused({"c": base}, {**nine, "c": ours}, {"c": theirs}), "c")
        self.assertEqual(self.refused({"d": base, "c": base}, {"c": ours, "d": ours}, {"d": theirs, "c": theirs}), "c")
        self.assertEqual(self.refused({"p8": base}, {**eight, "p8": ours}, {**eight, "p8": theirs}), "p8")

    def test_long_texts_that_do_not_clash_with_the_limit(self):
        text = [str(place) for place in range(40)]
        self.assertEqual(merge_trees({}, {"f": text}, {}), ({"f": text}, []))


if __name__ == "__main__":
    unittest.main()
