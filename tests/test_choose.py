"""Point 17: the chosen text and the chosen tree."""

import unittest

from partclones.trees.choose import chosen_text, chosen_tree


class ChosenTextTest(unittest.TestCase):
    def test_no_other_value(self):
        self.assertEqual(chosen_text(["b"], []), ["b"])
        self.assertEqual(chosen_text(["b"], [["b"], ["b"]]), ["b"])
        self.assertEqual(chosen_text([], [[]]), [])
        self.assertIsNone(chosen_text(None, []))
        self.assertIsNone(chosen_text(None, [None, None]))

    def test_one_other_value(self):
        self.assertEqual(chosen_text(["b"], [["x"]]), ["x"])
        self.assertEqual(chosen_text(["b"], [["b"], ["x"], ["b"]]), ["x"])
        self.assertEqual(chosen_text(["b"], [["x"], ["x"], ["x"]]), ["x"])
        self.assertEqual(chosen_text(["b"], [[]]), [])
        self.assertEqual(chosen_text(None, [None, ["x"], ["x"]]), ["x"])
        self.assertEqual(chosen_text(None, [[]]), [])

    def test_none_as_the_other_value(self):
        self.assertIsNone(chosen_text(["b"], [None]))
        self.assertIsNone(chosen_text(["b"], [None, ["b"], None]))
        self.assertIsNone(chosen_text([], [None]))

    def test_two_other_values(self):
        self.assertEqual(chosen_text(["b"], [["x"], ["y"]]), ["b"])
        self.assertEqual(chosen_text(["b"], [["x"], None]), ["b"])
        self.assertEqual(chosen_text(["b"], [[], None]), ["b"])
        self.assertEqual(chosen_text(["b"], [["x"], ["x"], ["y"]]), ["b"])
        self.assertIsNone(chosen_text(None, [["x"], ["y"], ["x"]]))
        self.assertIsNone(chosen_text(None, [["x"], []]))

    def test_result_is_new(self):
        base, text = ["b"], ["x"]
        self.assertIsNot(chosen_text(base, [base]), base)
        self.assertIsNot(chosen_text(base, [text]), text)


class ChosenTreeTest(unittest.TestCase):
    def test_no_trees(self):
        self.assertEqual(chosen_tree({}, []), {})
        self.assertEqual(chosen_tree({"f": ["a"]}, []), {"f": ["a"]})

    def test_path_by_path(self):
        base = {"a": ["1"], "b": ["1"], "c": ["1"], "d": ["1"]}
        ones = {"a": ["2"], "b": ["2"], "d": ["1"], "e": ["5"], "g": ["8"]}
        others = {"a": ["1"], "b": ["3"], "d": ["1"], "f": ["6"], "g": ["9"]}
        result = chosen_tree(base, [ones, others])
        self.assertEqual(result, {"a": ["2"], "b": ["1"], "d": ["1"], "e": ["5"], "f": ["6"]})
        self.assertEqual(list(result), ["a", "b", "d", "e", "f"])

    def test_one_removed_and_one_changed(self):
        self.assertEqual(chosen_tree({"f": ["a"]}, [{}, {"f": ["b"]}]), {"f": ["a"]})
        self.assertEqual(chosen_tree({"f": ["a"]}, [{}, {"f": ["a"]}]), {})

    def test_paths_ascend(self):
        self.assertEqual(list(chosen_tree({"z": [], "b": []}, [{"z": [], "b": [], "a": []}])), ["a", "b", "z"])

    def test_more_than_eight_paths(self):
        trees = [{f"{letter}{number}": [letter] for number in range(8)} for letter in "cab"]
        result = chosen_tree({}, trees)
        self.assertEqual(len(result), 24)
        self.assertEqual(list(result), sorted(result))


if __name__ == "__main__":
    unittest.main()
