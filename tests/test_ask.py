"""Point 42: questions and their answers."""

import itertools
import unittest

from partclones.errors import BadQuestion, Unknown
from partclones.histories.ask import answer
from partclones.histories.core import core
from partclones.histories.history import History
from support import CRISS_CROSS, Grown, criss_cross, example, is_plain

COUNTS = {"show": 1, "origins": 1, "under": 2, "bases": 2, "base": 2, "changes": 2, "reach": 1, "lead": 2}


class AskTest(unittest.TestCase):
    def setUp(self):
        self.history = criss_cross(
            r={"g": ["r"], "f": ["a", "b"], "k": []},
            a={"g": ["r"], "f": ["a"]},
            b={"f": ["a", "b", "c"], "n": ["x"]},
        )

    def ask(self, *question):
        found = answer(self.history, question)
        self.assertTrue(is_plain(found))
        return found

    def test_show_and_origins(self):
        self.assertEqual(self.ask("show", "r"), (("f", ("a", "b")), ("g", ("r",)), ("k", ())))
        self.assertEqual(self.ask("origins", "r"), (("f", ("r", "r")), ("g", ("r",)), ("k", ())))
        self.assertEqual(self.ask("origins", "b"), (("f", ("r", "r", "b")), ("n", ("b",))))
        self.assertEqual(self.ask("show", "c"), ())
        self.assertEqual(self.ask("origins", "c"), ())

    def test_show_and_origins_are_as_in_the_facts(self):
        history = Grown(1).grow(12).history
        for name, _, files, origins in history.facts()[0]:
            self.assertEqual(answer(history, ("show", name)), files)
            self.assertEqual(answer(history, ("origins", name)), origins)

    def test_under(self):
        self.assertIs(self.ask("under", "r", "c"), True)
        self.assertIs(self.ask("under", "c", "r"), False)
        self.assertIs(self.ask("under", "c", "c"), True)

    def test_bases_and_base(self):
        self.assertEqual(self.ask("bases", "d", "c"), ("a", "b"))
        self.assertEqual(self.ask("bases", "a", "a"), ("a",))
        self.assertEqual(self.ask("base", "d", "c"), (("f", ("a", "b")), ("n", ("x",))))
        self.assertEqual(self.ask("base", "b", "a"), self.ask("show", "r"))
        self.history.commit("u", [], {})
        self.assertEqual([self.ask("bases", "u", "c"), self.ask("base", "u", "c")], [(), ()])

    def test_changes(self):
        self.assertEqual(
            self.ask("changes", "r", "b"),
            (("f", ("a", "b"), ("a", "b", "c")), ("g", ("r",), None), ("k", (), None), ("n", None, ("x",))),
        )
        self.assertEqual(self.ask("changes", "b", "b"), ())

    def test_reach_and_lead(self):
        self.assertEqual([self.ask("reach", name) for name in "abcdr"], [2, 2, 4, 4, 1])
        self.assertEqual(self.ask("lead", "c", "d"), 1)
        self.assertEqual(self.ask("lead", "c", "r"), 3)
        self.assertEqual(self.ask("lead", "r", "c"), 0)
        thin = History.of(core(self.history, ["c", "d"]))
        self.assertEqual(answer(thin, ("reach", "d")), 4)
        self.assertEqual(answer(thin, ("lead", "d", "c")), 1)

    def test_tuples_of_other_lengths(self):
        for word, count in COUNTS.items():
            self.ask(word, *["r"] * count)
            for other in range(5):
                if other != count:
                    for names in (["r"] * other, ["q"] * other):
                        self.assertRaises(BadQuestion, self.ask, word, *names)

    def test_unknown_first_words(self):
        self.assertRaises(BadQuestion, self.ask)
        for word in ("", "Show", "show ", "tree", "keep", "r", "shows", "facts"):
            for names in ([], ["r"], ["r", "a"], ["q"], ["q", "q"], ["r", "a", "b"]):
                self.assertRaises(BadQuestion, self.ask, word, *names)

    def test_the_first_unknown_name(self):
        for word, count in COUNTS.items():
            for names in itertools.product(["a", "q", "", "NO"], repeat=count):
                unknown = [name for name in names if name != "a"]
                if unknown:
                    with self.assertRaises(Unknown) as caught:
                        self.ask(word, *names)
                    self.assertEqual(caught.exception.name, unknown[0])

    def test_the_history_stays_as_it_is(self):
        history = example()
        before = history.facts()
        for word, count in COUNTS.items():
            for names in itertools.product(history.names(), repeat=count):
                answer(history, (word, *names))
        self.assertEqual(history.facts(), before)

    def test_every_version_of_the_small_order(self):
        self.assertEqual(self.history.names(), sorted(name for name, _ in CRISS_CROSS))


if __name__ == "__main__":
    unittest.main()
