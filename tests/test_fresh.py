"""Points 47 and 49: names and paths that are not in use."""

import unittest

from partclones.errors import BadSize
from partclones.histories.history import History
from partclones.scripts.fresh import fresh_names, fresh_path
from support import example


class FreshNamesTest(unittest.TestCase):
    def test_counts(self):
        self.assertEqual(fresh_names([], 0), [])
        self.assertEqual(fresh_names(["x0"], 0), [])
        self.assertEqual(fresh_names([], 3), ["x0", "x1", "x2"])
        self.assertEqual(fresh_names([], 100), [f"x{number}" for number in range(100)])

    def test_taken_names(self):
        self.assertEqual(fresh_names(["x1", "y", "x0", "x3", "x0"], 3), ["x2", "x4", "x5"])
        self.assertEqual(fresh_names(["x00", "X0", "x", "0"], 2), ["x0", "x1"])
        taken = [f"x{number}" for number in range(150)]
        self.assertEqual(fresh_names(taken, 100), [f"x{number}" for number in range(150, 250)])

    def test_bad_counts(self):
        for count in (-1, 101, -100, 2**70):
            with self.assertRaises(BadSize) as caught:
                fresh_names(["x0"], count)
            self.assertEqual(caught.exception.value, count)

    def test_nothing_is_shared(self):
        taken = ["x0"]
        fresh_names(taken, 2).clear()
        self.assertEqual((taken, fresh_names(taken, 1)), (["x0"], ["x1"]))


class FreshPathTest(unittest.TestCase):
    def test_paths(self):
        history = History()
        self.assertEqual(fresh_path(history), "p0")
        self.assertEqual(fresh_path(example()), "p0")
        history.commit("a", [], {"p0": [], "p1/p2": [], "p3": []})
        self.assertEqual(fresh_path(history), "p1")
        history.commit("b", ["a"], {"p1": ["x"]})
        self.assertEqual(fresh_path(history), "p2")
        history.commit("c", [], {"p2": []})
        self.assertEqual(fresh_path(history), "p4")


if __name__ == "__main__":
    unittest.main()
