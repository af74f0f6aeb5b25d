"""Point 16: puts."""

import unittest

from partclones.errors import BadPut
from partclones.trees.puts import put_tree, puts_between

OLD = {"a": ["1"], "b": [], "c/d": ["x", "y"], "e": ["same"]}
NEW = {"e": ["same"], "f": [], "c/d": ["x"], "b": ["2"]}


class PutsBetweenTest(unittest.TestCase):
    def test_puts(self):
        self.assertEqual(puts_between(OLD, NEW), [("a", None), ("b", ("2",)), ("c/d", ("x",)), ("f", ())])

    def test_equal_trees(self):
        self.assertEqual(puts_between({}, {}), [])
        self.assertEqual(puts_between(OLD, OLD), [])

    def test_leads_from_old_to_new(self):
        self.assertEqual(put_tree(OLD, puts_between(OLD, NEW)), NEW)
        self.assertEqual(put_tree(NEW, puts_between(NEW, OLD)), OLD)
        self.assertEqual(put_tree({}, puts_between({}, OLD)), OLD)
        self.assertEqual(put_tree(OLD, puts_between(OLD, {})), {})


class PutTreeTest(unittest.TestCase):
    def refused(self, puts, tree=None):
        places = []
        for form in (list(puts), tuple(puts)):
            with self.assertRaises(BadPut) as caught:
                put_tree(OLD if tree is None else tree, form)
            places.append(caught.exception.place)
        self.assertEqual(places[0], places[1])
        return places[0]

    def test_sets_and_removes(self):
        for form in (list, tuple):
            result = put_tree({"m": ["x"], "k": ["y"]}, form([("z", ("1", "2")), ("m", None), ("a", ()), ("k", ("q",))]))
            self.assertEqual(result, {"a": [], "k": ["q"], "z": ["1", "2"]})
            self.assertEqual(list(result), ["a", "k", "z"])
            self.assertTrue(all(type(text) is list for text in result.values()))

    def test_no_puts_give_a_new_tree(self):
        tree = {"z": ["x"], "a": []}
        result = put_tree(tree, [])
        self.assertEqual(result, tree)
        self.assertEqual(list(result), ["a", "z"])
        self.assertIsNot(result["z"], tree["z"])
        self.assertEqual(put_tree({}, ()), {})

    def test_removing_a_path_that_the_tree_lacks(self):
        self.assertEqual(put_tree({"a": ["x"]}, [("b", None)]), {"a": ["x"]})
        self.assertEqual(put_tree({}, (("b", None),)), {})

    def test_path_that_is_none(self):
        self.assertEqual(self.refused([("", None)]), 0)
        self.assertEqual(self.refused([("a", None), ("B", ())]), 1)
        self.assertEqual(self.refused([("a", None), ("b", ()), ("a/b/c/d", ("x",))]), 2)

    def test_path_that_comes_twice(self):
        self.assertEqual(self.refused([("a", None), ("a", None)]), 1)
        self.assertEqual(self.refused([("a", ("x",)), ("b", ()), ("a", None), ("b", ())]), 2)
        self.assertEqual(put_tree({}, [("a", ("x",)), ("a/a", ("y",))]), {"a": ["x"], "a/a": ["y"]})

    def test_forty_and_forty_one_lines(self):
        self.assertEqual(put_tree({}, [("f", ("x",) * 40)]), {"f": ["x"] * 40})
        self.assertEqual(put_tree({}, (("f", ("x",) * 40),)), {"f": ["x"] * 40})
        self.assertEqual(self.refused([("e", ()), ("f", ("x",) * 41)]), 1)

    def test_string_that_is_no_line(self):
        self.assertEqual(put_tree({}, [("f", ("a" * 20,))]), {"f": ["a" * 20]})
        self.assertEqual(self.refused([("f", ("a" * 21,))]), 0)
        self.assertEqual(self.refused([("e", ()), ("f", ("a", "Capital"))]), 1)

    def test_lines_that_are_a_list(self):
        self.assertEqual(self.refused([("e", ()), ("f", ["a"])]), 1)

    def test_first_faulty_put_counts(self):
        self.assertEqual(self.refused([("a", ()), ("f", ("A",)), ("a", ()), ("", ())]), 1)
        self.assertEqual(self.refused([("a", ()), ("a", ()), ("f", ("A",)), ("", ())]), 1)

    def test_refused_even_if_the_tree_would_not_change(self):
        self.assertEqual(self.refused([("q", None), ("q", None)], {}), 1)


if __name__ == "__main__":
    unittest.main()
