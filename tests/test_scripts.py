"""Points 43 and 44: doing commands, and running scripts."""

import unittest

from partclones.closed.closure import closure
from partclones.errors import TooLarge
from partclones.histories.core import core
from partclones.histories.history import History
from partclones.scripts.run import run
from partclones.scripts.step import step
from support import Grown, criss_cross, example, is_plain

NINE = tuple((f"p{number}", ()) for number in range(9))


class StepTest(unittest.TestCase):
    def setUp(self):
        self.history = example()

    def step(self, *command):
        """Do a command on the history of the example, and check what always holds."""
        before = self.history.facts()
        after, told = step(self.history, command)
        self.assertIs(type(after), History)
        self.assertIsNot(after, self.history)
        self.assertEqual(self.history.facts(), before)
        self.assertTrue(is_plain(told))
        if told[0] in ("refused", "answer"):
            self.assertEqual(after.facts(), before)
        return after, told

    def refused(self, *command):
        return self.step(*command)[1]

    def test_commit_without_parents(self):
        after, told = self.step("commit", "n", (), (("g", ("a",)), ("f", None), ("h", ())))
        self.assertEqual(told, ("done",))
        self.assertEqual(after.tree("n"), {"g": ["a"], "h": []})
        self.assertEqual(after.origins("n"), {"g": ["n"], "h": []})
        self.assertEqual(after.order().nearest("n"), [])

    def test_commit_on_the_tree_of_the_first_parent(self):
        after, told = self.step("commit", "n", ("y", "x"), (("g", ("d", "b")),))
        self.assertEqual(told, ("done",))
        self.assertEqual(after.tree("n"), {"f": ["b", "c"], "g": ["d", "b"]})
        self.assertEqual(after.order().nearest("n"), ["x", "y"])
        after, _ = self.step("commit", "n", ("x", "y"), (("f", ("d", "b")),))
        self.assertEqual(after.tree("n"), {"f": ["d", "b"]})
        self.assertEqual(after.origins("n"), {"f": ["x", "r"]})

    def test_commit_without_puts(self):
        after, _ = self.step("commit", "n", ("x",), ())
        self.assertEqual((after.tree("n"), after.origins("n")), (after.tree("x"), after.origins("x")))
        after, _ = self.step("commit", "n", (), ())
        self.assertEqual(after.tree("n"), {})

    def test_commit_that_removes_paths(self):
        after, told = self.step("commit", "n", ("x",), (("f", None), ("none", None)))
        self.assertEqual((told, after.tree("n")), (("done",), {}))

    def test_merge(self):
        after, told = self.step("merge", "n", "x", "y")
        self.assertEqual(told, ("merged", ()))
        self.history.merge("n", "x", "y")
        self.assertEqual(after.facts(), self.history.facts())

    def test_clashes(self):
        for name, text in (("u", "1"), ("v", "2")):
            self.history.commit(name, ["r"], {"f": ["a", "b", "c", text], "a": [text], "d": [text]})
        self.history.commit("w", ["u"], {"a": ["3"], "d": []})
        after, told = self.step("merge", "n", "v", "w")
        self.assertEqual(told, ("merged", (("a", 1), ("f", 0))))
        _, told = self.step("merge", "n", "u", "v")
        self.assertEqual(told, ("merged", (("a", 1), ("d", 1), ("f", 1))))
        self.assertEqual(list(after.tree("n")), ["a", "d", "f"])

    def test_pick(self):
        after, told = self.step("pick", "n", "r", "x", "y")
        self.assertEqual(told, ("merged", ()))
        self.assertEqual(after.tree("n"), {"f": ["b", "c", "d"]})
        self.assertEqual(after.order().nearest("n"), ["y"])
        self.history.commit("u", ["r"], {"f": ["z", "b", "c"]})
        _, told = self.step("pick", "n", "r", "u", "y")
        self.assertEqual(told, ("merged", (("f", 1),)))

    def test_keep(self):
        after, told = self.step("keep", ("m", "y"))
        self.assertEqual(told, ("kept", ("m", "y")))
        self.assertEqual(after.facts(), core(self.history, ["m", "y"]))
        after, told = self.step("keep", ("y", "x"))
        self.assertEqual(told, ("kept", ("r", "x", "y")))
        self.assertEqual(after.facts(), core(self.history, ["r", "x", "y"]))

    def test_keep_of_names_that_are_not_closed(self):
        self.history = criss_cross(c={"f": ["a"]})
        after, told = self.step("keep", ("d", "c"))
        self.assertEqual(told, ("kept", ("a", "b", "c", "d", "r")))
        self.assertEqual(after.facts(), self.history.facts())

    def test_keep_of_all_and_of_no_versions(self):
        after, told = self.step("keep", ("y", "x", "r", "m"))
        self.assertEqual(told, ("kept", ("m", "r", "x", "y")))
        self.assertEqual(after.facts(), self.history.facts())
        after, told = self.step("keep", ())
        self.assertEqual(told, ("kept", ()))
        self.assertEqual(after.facts(), ((), ()))

    def test_ask(self):
        for question, value in (
            (("under", "r", "m"), True),
            (("bases", "x", "y"), ("r",)),
            (("lead", "m", "y"), 2),
            (("show", "y"), (("f", ("b", "c")),)),
        ):
            self.assertEqual(self.step("ask", question)[1], ("answer", value))

    def test_word_name(self):
        for name in ("", "NO", "1a", "abcdefg"):
            for command in (
                ("commit", name, (), ()),
                ("merge", name, "x", "y"),
                ("pick", name, "r", "x", "y"),
            ):
                self.assertEqual(self.refused(*command), ("refused", "name"))

    def test_word_taken(self):
        self.assertEqual(self.refused("commit", "m", (), ()), ("refused", "taken"))
        self.assertEqual(self.refused("merge", "x", "x", "y"), ("refused", "taken"))
        self.assertEqual(self.refused("pick", "y", "r", "x", "y"), ("refused", "taken"))

    def test_word_unknown(self):
        for command in (
            ("commit", "n", ("q",), ()),
            ("commit", "n", ("n",), ()),
            ("commit", "n", ("x", "q"), ()),
            ("merge", "n", "q", "x"),
            ("merge", "n", "x", "q"),
            ("merge", "n", "q", "q"),
            ("pick", "n", "q", "x", "y"),
            ("pick", "n", "r", "q", "y"),
            ("pick", "n", "r", "x", "q"),
            ("keep", ("x", "q", "x")),
            ("ask", ("show", "q")),
            ("ask", ("under", "q", "x")),
            ("ask", ("under", "x", "")),
        ):
            self.assertEqual(self.refused(*command), ("refused", "unknown"))

    def test_word_repeated(self):
        self.assertEqual(self.refused("commit", "n", ("x", "x"), ()), ("refused", "repeated"))
        self.assertEqual(self.refused("commit", "n", ("x", "x", "q"), ()), ("refused", "repeated"))
        self.assertEqual(self.refused("merge", "n", "x", "x"), ("refused", "repeated"))
        self.assertEqual(self.refused("keep", ("x", "y", "x", "q")), ("refused", "repeated"))

    def test_word_put(self):
        for puts in (
            (("NO", None),),
            (("f", None), ("f", ("a",))),
            (("f", ("A",)),),
            (("f", ("a",) * 41),),
            (("", ()),),
            (("a/b/c/d", ()),),
        ):
            self.assertEqual(self.refused("commit", "n", ("x",), puts), ("refused", "put"))

    def test_word_tree(self):
        self.assertEqual(self.refused("commit", "n", (), NINE), ("refused", "tree"))
        self.assertEqual(self.refused("commit", "n", ("x",), NINE[:8]), ("refused", "tree"))
        self.assertEqual(self.step("commit", "n", (), NINE[:8])[1], ("done",))
        self.assertEqual(self.step("commit", "n", ("x",), (*NINE[:8], ("f", None)))[1], ("done",))

    def test_word_large(self):
        self.history.commit("u", ["r"], {f"u{number}": [] for number in range(5)})
        self.history.commit("v", ["r"], {f"v{number}": [] for number in range(5)})
        self.assertRaises(TooLarge, self.history.merge, "n", "u", "v")
        self.assertEqual(self.refused("merge", "n", "u", "v"), ("refused", "large"))
        self.assertEqual(self.refused("pick", "n", "r", "u", "v"), ("refused", "large"))

    def test_word_question(self):
        for question in ((), ("show",), ("show", "x", "y"), ("shown", "x"), ("under", "x"), ("", "q")):
            self.assertEqual(self.refused("ask", question), ("refused", "question"))

    def test_which_refusal_comes_first(self):
        bad = (("NO", None),)
        self.history.commit("u", ["r"], {f"u{number}": [] for number in range(5)})
        self.history.commit("v", ["r"], {f"v{number}": [] for number in range(5)})
        for command, word in (
            (("commit", "NO", ("q",), bad), "name"),
            (("commit", "m", ("q",), bad), "taken"),
            (("commit", "n", ("q", "x", "x"), bad), "unknown"),
            (("commit", "n", ("x", "x", "q"), bad), "repeated"),
            (("commit", "n", ("x",), (*bad, *NINE)), "put"),
            (("commit", "n", ("x",), (*NINE, *NINE)), "put"),
            (("commit", "n", ("x",), NINE), "tree"),
            (("merge", "NO", "q", "q"), "name"),
            (("merge", "m", "q", "q"), "taken"),
            (("merge", "m", "u", "v"), "taken"),
            (("merge", "n", "q", "q"), "unknown"),
            (("merge", "n", "u", "u"), "repeated"),
            (("pick", "NO", "q", "u", "v"), "name"),
            (("pick", "m", "r", "u", "v"), "taken"),
            (("pick", "n", "r", "u", "q"), "unknown"),
            (("ask", ("show", "q", "q")), "question"),
        ):
            self.assertEqual(self.refused(*command), ("refused", word))


class RunTest(unittest.TestCase):
    def test_the_empty_script(self):
        history = example()
        after, told = run(history, [])
        self.assertEqual((after.facts(), told), (history.facts(), []))
        self.assertIsNot(after, history)
        after.commit("n", [], {})
        self.assertIs("n" in history, False)

    def test_command_by_command(self):
        script = [
            ("commit", "r", (), (("f", ("a", "b")),)),
            ("commit", "x", ("r",), (("f", ("a", "b", "c")),)),
            ("commit", "y", ("r",), (("f", ("b",)), ("g", ()))),
            ("merge", "m", "x", "y"),
            ("ask", ("show", "m")),
            ("ask", ("origins", "m")),
            ("keep", ("m",)),
            ("ask", ("reach", "m")),
            ("commit", "r", ("m",), ()),
            ("ask", ("reach", "r")),
        ]
        after, told = run(History(), script)
        self.assertEqual(
            told,
            [
                *[("done",)] * 3,
                ("merged", ()),
                ("answer", (("f", ("b", "c")), ("g", ()))),
                ("answer", (("f", ("r", "x")), ("g", ()))),
                ("kept", ("m",)),
                ("answer", 4),
                ("done",),
                ("answer", 5),
            ],
        )
        self.assertEqual(after.names(), ["m", "r"])

    def test_a_refused_command_has_no_effect_and_the_script_goes_on(self):
        history = example()
        script = [
            ("commit", "n", ("q",), ()),
            ("commit", "n", ("m",), NINE),
            ("merge", "n", "x", "x"),
            ("keep", ("x", "q")),
            ("ask", ("shown", "x")),
            ("commit", "n", ("m",), ()),
            ("commit", "n", ("m",), ()),
        ]
        after, told = run(history, script)
        words = ["unknown", "tree", "repeated", "unknown", "question"]
        self.assertEqual(told, [*[("refused", word) for word in words], ("done",), ("refused", "taken")])
        self.assertEqual(after.names(), ["m", "n", "r", "x", "y"])

    def test_like_its_steps_one_after_the_other(self):
        for seed in range(3):
            history = Grown(seed).grow(10).history
            names = history.names()
            script = [
                *[("merge", "n1", names[2], names[5]), ("pick", "n2", names[0], names[3], "n1")],
                *[("keep", ("n1", names[4])), ("merge", "n3", "n1", names[4]), ("merge", "n3", names[1], names[4])],
                *[("ask", ("lead", "n1", names[4])), ("keep", ("n3",)), ("keep", ())],
            ]
            now, answers = history, []
            for command in script:
                now, told = step(now, command)
                answers.append(told)
            after, told = run(history, script)
            self.assertEqual((after.facts(), told), (now.facts(), answers))
            order = run(history, script[:2])[0].order()
            self.assertEqual(answers[2], ("kept", tuple(closure(order, ["n1", names[4]]))))

    def test_nothing_that_is_passed_is_changed(self):
        history = example()
        before = history.facts()
        script = [("commit", "n", ("m",), ()), ("keep", ("n",)), ("merge", "o", "n", "q")]
        passed = list(script)
        after, told = run(history, passed)
        self.assertEqual((history.facts(), passed), (before, script))
        facts = after.facts()
        history.commit("z", [], {})
        passed.clear()
        self.assertEqual(after.facts(), facts)
        self.assertEqual(len(told), 3)
        told.clear()
        self.assertEqual(run(example(), script)[1], [("done",), ("kept", ("n",)), ("refused", "unknown")])

    def test_changing_the_history_of_a_step_later_has_no_effect(self):
        for command in (("commit", "n", ("m",), ()), ("ask", ("show", "x")), ("keep", ("r",)), ("keep", ("q",))):
            history = example()
            after, _ = step(history, command)
            facts = after.facts()
            history.commit("z", [], {})
            self.assertEqual(after.facts(), facts)
            before = history.facts()
            after.commit("o", [], {})
            self.assertEqual(history.facts(), before)

    def test_two_hundred_commands(self):
        script = []
        for number in range(50):
            script.append(("commit", f"a{number}", (f"a{number - 1}",) if number else (), (("f", (f"{number}",)),)))
            script.append(("ask", ("reach", f"a{number}")))
            script.append(("keep", (f"a{number}", "a0") if number else ("a0",)))
            script.append(("ask", ("lead", f"a{number}", "a0")))
        after, told = run(History(), script)
        self.assertEqual(after.names(), ["a0", "a49"])
        self.assertEqual(told[1::4], [("answer", number + 1) for number in range(50)])
        self.assertEqual(told[3::4], [("answer", number) for number in range(50)])


if __name__ == "__main__":
    unittest.main()
