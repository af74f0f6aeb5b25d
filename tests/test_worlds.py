"""Point 47: two worlds that look alike on a list that is not closed."""

import unittest

from partclones.closed.gaps import first_gap
from partclones.errors import Repeated, TooLarge, Unknown
from partclones.histories.core import core
from partclones.histories.history import History
from partclones.scripts.judge import takes_worlds
from partclones.scripts.run import run
from partclones.scripts.worlds import two_worlds
from support import CRISS_CROSS, Grown, criss_cross, example, is_plain, subsets


class WorldsTest(unittest.TestCase):
    def check(self, history, names):
        """Check all that point 47 says of the worlds for a list, and return them."""
        before = history.facts()
        first, second, commands = found = two_worlds(history, names)
        self.assertIs(type(found), tuple)
        self.assertEqual((type(first), type(second), type(commands)), (History, History, list))
        self.assertEqual(len({id(history), id(first), id(second)}), 3)
        self.assertTrue(all(is_plain(command) for command in commands))
        self.assertEqual((history.facts(), second.facts()), (before, before))
        _, _, missing = first_gap(history.order(), names)
        path = [path for path, lines in commands[0][3] if lines is not None][0]
        for row, other in zip(first.facts()[0], before[0]):
            if row[0] == missing:
                files = tuple(sorted([*other[2], (path, ("kept",))]))
                origins = tuple(sorted([*other[3], (path, (missing,))]))
                self.assertEqual(row, (missing, other[1], files, origins))
            else:
                self.assertEqual(row, other)
        self.assertEqual(first.tally(), history.tally())
        self.assertEqual(core(first, names), core(second, names))
        answers = [run(world, commands)[1] for world in (first, second)]
        self.assertEqual(answers[0][:3], [("done",), ("done",), ("merged", ())])
        self.assertEqual(answers[0][3], ("answer", ()))
        self.assertEqual(answers[1][3], ("answer", ((path, ("kept",)),)))
        self.assertTrue(takes_worlds(history, names, first, second, commands))
        return first, second, commands

    def test_a_closed_list(self):
        for names in ([], ["m"], ["y", "x", "r"], ["m", "x"]):
            self.assertIsNone(two_worlds(example(), names))

    def test_a_gap(self):
        _, _, commands = self.check(example(), ["y", "x"])
        self.assertEqual(commands, [
            ("commit", "x0", ("x",), (("f", None), ("p0", ("kept",)))),
            ("commit", "x1", ("y",), (("f", None),)),
            ("merge", "x2", "x0", "x1"),
            ("ask", ("show", "x2")),
        ])

    def test_puts_are_in_the_order_of_the_paths(self):
        history = criss_cross(c={"q": ["a"], "a": [], "p/0": ["b"]}, d={"z": [], "b": ["c"]}, a={"a": ["x"]})
        _, _, commands = self.check(history, ["d", "c"])
        self.assertEqual(commands[0][2:], (("c",), (("a", None), ("p/0", None), ("p0", ("kept",)), ("q", None))))
        self.assertEqual(commands[1][2:], (("d",), (("b", None), ("z", None))))

    def test_the_first_gap(self):
        first, second, _ = self.check(criss_cross(a={"p1": ["a"]}, b={"f": []}), ["d", "c"])
        self.assertEqual([first.tree("a"), first.tree("b")], [{"p0": ["kept"], "p1": ["a"]}, {"f": []}])
        self.assertEqual(first.origins("a"), {"p0": ["a"], "p1": ["a"]})
        self.assertEqual(second.tree("a"), {"p1": ["a"]})

    def test_fresh_path_and_names(self):
        history = History()
        for name, parents in (("x1", []), ("a", ["x1"]), ("x0", ["x1"]), ("x3", [])):
            history.commit(name, parents, {"p0": ["0"], "p2": []} if name == "x3" else {"p1/a": []})
        _, _, commands = self.check(history, ["x0", "a"])
        self.assertEqual([command[1] for command in commands[:3]], ["x2", "x4", "x5"])
        self.assertEqual(commands[0][3], (("p1", ("kept",)), ("p1/a", None)))

    def test_too_large(self):
        eight = {f"q{number}": ["a"] for number in range(8)}
        history = criss_cross(a=eight, b={"p0": [], "p1": []})
        with self.assertRaises(TooLarge) as caught:
            two_worlds(history, ["c", "d"])
        self.assertEqual(caught.exception.path, "p2")
        self.assertIsNone(two_worlds(history, ["c", "a"]))
        del eight["q3"]
        self.check(criss_cross(a=eight), ["c", "d"])
        full = {f"q{number}": [] for number in range(8)}
        self.check(criss_cross(c=full, d=full), ["c", "d"])

    def test_refused(self):
        full = criss_cross(a={f"q{number}": ["a"] for number in range(8)})
        for error, names, name in (
            (Unknown, ["c", "q", "c"], "q"),
            (Repeated, ["c", "d", "c"], "c"),
            (Unknown, ["q", "c", "d"], "q"),
        ):
            with self.assertRaises(error) as caught:
                two_worlds(full, names)
            self.assertEqual(caught.exception.name, name)

    def test_the_worlds_do_not_hang_on_each_other(self):
        history = example()
        first, second, commands = two_worlds(history, ["x", "y"])
        pictures = [world.facts() for world in (history, first, second)]
        first.commit("n", ["m"], {})
        self.assertEqual([history.facts(), second.facts()], [pictures[0], pictures[2]])
        second.commit("o", ["m"], {})
        history.commit("p", ["m"], {})
        self.assertEqual(first.names(), ["m", "n", "r", "x", "y"])
        self.assertEqual(second.names(), ["m", "o", "r", "x", "y"])
        commands.clear()
        self.assertEqual(len(two_worlds(history, ["x", "y"])[2]), 4)

    def test_all_lists_of_small_histories(self):
        for history in (criss_cross(), *[Grown(seed).grow(7).history for seed in (2, 5)]):
            for names in subsets(history.names()):
                if first_gap(history.order(), names) is None:
                    self.assertIsNone(two_worlds(history, names))
                else:
                    self.check(history, names)

    def test_a_history_that_has_forgotten(self):
        grown = Grown(4).grow(12).history
        history = History.of(core(grown, grown.names()[::2]))
        names = history.names()
        tested = 0
        for x in names:
            for y in names:
                if x < y and first_gap(history.order(), [x, y]) is not None:
                    self.check(history, [y, x])
                    tested += 1
        self.assertGreater(tested, 0)

    def test_names_of_the_list_are_not_changed(self):
        names = [name for name, _ in CRISS_CROSS[3:]]
        two_worlds(criss_cross(), names)
        self.assertEqual(names, ["c", "d"])


if __name__ == "__main__":
    unittest.main()
