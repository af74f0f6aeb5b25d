"""Point 48: the judge of worlds."""

import unittest

from partclones.closed.gaps import is_closed
from partclones.errors import Repeated, Unknown
from partclones.histories.core import core
from partclones.histories.history import History
from partclones.scripts.judge import takes_worlds
from partclones.scripts.run import run
from partclones.scripts.worlds import two_worlds
from support import Chooser, Grown, criss_cross, example, subsets

LIST = ["c", "d"]
# A command for each place in which a version is named; each of them is done in both worlds.
NAMING = [
    *[("commit", "n", ("a",), ()), ("commit", "n", ("c", "a"), ()), ("commit", "n", ("x0", "a"), ())],
    *[("merge", "n", "a", "c"), ("merge", "n", "d", "a")],
    *[("pick", "n", "a", "c", "d"), ("pick", "n", "c", "a", "d"), ("pick", "n", "c", "d", "a")],
    *[("ask", ("show", "a")), ("ask", ("origins", "a")), ("ask", ("reach", "a"))],
    *[("ask", ("under", "a", "c")), ("ask", ("under", "c", "a")), ("ask", ("bases", "d", "a"))],
    *[("ask", ("base", "a", "d")), ("ask", ("changes", "d", "a")), ("ask", ("lead", "a", "c"))],
]


class JudgeTest(unittest.TestCase):
    def setUp(self):
        self.history = criss_cross(c={"f": ["c"]}, d={"f": ["d"]})
        self.first, self.second, self.commands = two_worlds(self.history, LIST)

    def judge(self, names=LIST, first=None, second=None, commands=None):
        history = self.history
        first = first or self.first
        second = second or self.second
        commands = self.commands if commands is None else commands
        before = [world.facts() for world in (history, first, second)], list(names), list(commands)
        told = takes_worlds(history, names, first, second, commands)
        self.assertIs(type(told), bool)
        self.assertEqual(([world.facts() for world in (history, first, second)], list(names), list(commands)), before)
        return told

    def differ(self, first, second, commands):
        """Check that no command is refused and that the answers differ."""
        answers = [run(world, commands)[1] for world in (first, second)]
        self.assertNotIn("refused", [told[0] for told in answers[0] + answers[1]])
        self.assertNotEqual(answers[0], answers[1])

    def test_worlds_that_it_takes(self):
        self.assertIs(self.judge(), True)
        self.assertIs(self.judge(names=["d", "c"]), True)
        self.assertIs(self.judge(second=self.history), True)
        self.assertIs(takes_worlds(example(), ["x", "y"], *two_worlds(example(), ["x", "y"])), True)

    def test_more_commands(self):
        more = [
            *[("ask", ("show", "c")), ("commit", "y", (), ()), ("commit", "z", ("y", "d"), (("g", ()),))],
            *[("merge", "q", "z", "x2"), ("pick", "p", "x1", "q", "c"), ("ask", ("lead", "p", "d"))],
        ]
        self.assertIs(self.judge(commands=[*self.commands, *more]), True)
        self.assertIs(self.judge(commands=[*more[:3], *self.commands]), True)

    def test_versions_that_are_called_like_words(self):
        more = [("commit", "ask", (), ()), ("commit", "keep", ("ask",), ()), ("ask", ("under", "ask", "keep"))]
        self.assertIs(self.judge(commands=[*more, *self.commands]), True)
        self.assertIs(self.judge(commands=[*self.commands, ("ask", ("show", "c")), ("ask", ("show", "show"))]), False)

    def test_the_second_world_has_the_facts_of_the_history(self):
        self.differ(self.second, self.first, self.commands)
        self.assertIs(self.judge(first=self.second, second=self.first), False)
        second = self.second.copied()
        second.commit("more", [], {})
        self.differ(self.first, second, self.commands)
        self.assertIs(self.judge(second=second), False)
        first = self.first.copied()
        first.commit("more", [], {})
        self.assertIs(self.judge(first=first), True)

    def test_both_worlds_have_the_list(self):
        # The question is about one version, so nothing is refused where the other one is missing.
        first = History()
        first.commit("c", [], {"g": []})
        commands = [("ask", ("show", "c"))]
        self.differ(first, self.second, commands)
        self.assertIs(self.judge(first=first, commands=commands), False)
        self.assertIs(self.judge(first=History(), commands=[]), False)

    def test_both_worlds_have_the_same_core_on_the_list(self):
        rows, tally = self.second.facts()
        at = [row[0] for row in rows].index("c")
        name, nearest, files, origins = rows[at]
        for row, question in (
            ((name, nearest, (("f", ("x",)),), origins), ("show", "c")),
            ((name, nearest, files, (("f", ("q",)),)), ("origins", "c")),
            ((name, (*nearest, "d"), files, origins), ("under", "d", "c")),
        ):
            first = History.of(((*rows[:at], row, *rows[at + 1:]), tally))
            self.differ(first, self.second, [("ask", question)])
            self.assertIs(self.judge(first=first, commands=[("ask", question)]), False)
        first = History.of((rows, ((("c",), 1),)))
        self.differ(first, self.second, [("ask", ("reach", "c"))])
        self.assertIs(self.judge(first=first, commands=[("ask", ("reach", "c"))]), False)

    def test_no_command_is_a_keep(self):
        for keep in (("keep", ("c", "d")), ("keep", ("x2",)), ("keep", ()), ("keep", ("x0", "c"))):
            self.differ(self.first, self.second, [*self.commands, keep])
            self.assertIs(self.judge(commands=[*self.commands, keep]), False)

    def test_each_version_is_in_the_list_or_made_before(self):
        for command in NAMING:
            commands = [*self.commands, command]
            self.differ(self.first, self.second, commands)
            self.assertIs(self.judge(commands=commands), False, command)
        self.assertIs(self.judge(commands=[("ask", ("show", "a"))]), False)

    def test_no_command_is_refused(self):
        for bad in (
            *[("commit", "NO", (), ()), ("commit", "c", (), ()), ("commit", "n", ("n",), ())],
            *[("merge", "n", "c", "c"), ("commit", "n", ("c",), (("NO", None),)), ("ask", ("what", "c"))],
            *[("ask", ()), ("merge", "n", "n", "c"), ("pick", "n", "c", "n", "d"), ("commit", "x0", (), ())],
        ):
            for commands in ([*self.commands, bad], [bad, *self.commands]):
                self.assertIs(self.judge(commands=commands), False)

    def test_a_command_that_one_world_refuses(self):
        first = self.first.copied()
        first.commit("more", [], {})
        self.assertIs(self.judge(first=first), True)
        self.assertIs(self.judge(first=first, commands=[*self.commands, ("commit", "more", (), ())]), False)
        self.assertIs(self.judge(commands=[*self.commands, ("commit", "more", (), ())]), True)
        # The roles of the worlds are changed: now the second one refuses.
        self.history = first
        worlds = two_worlds(first, LIST)
        self.assertIs(self.judge(first=worlds[0], second=worlds[1], commands=worlds[2]), True)
        commands = [*self.commands, ("commit", "more", (), ())]
        self.assertIs(self.judge(first=self.first, second=worlds[1], commands=commands), False)

    def test_the_answers_differ(self):
        self.assertIs(self.judge(commands=[]), False)
        self.assertIs(self.judge(commands=self.commands[:3]), False)
        self.assertIs(self.judge(commands=[("ask", ("show", "c"))]), False)
        self.assertIs(self.judge(first=self.second), False)

    def test_refused_lists(self):
        for error, names, name in ((Unknown, ["c", "q", "c"], "q"), (Repeated, ["c", "c", "q"], "c")):
            with self.assertRaises(error) as caught:
                takes_worlds(self.history, names, self.first, self.second, [("keep", ())])
            self.assertEqual(caught.exception.name, name)
        # The list is checked by the history, whatever the worlds have.
        with self.assertRaises(Unknown):
            takes_worlds(History(), ["c"], self.first, self.second, self.commands)

    def test_a_list_that_seems_closed(self):
        # A kind with two members tells that something between them was forgotten.
        self.history = History.of(core(criss_cross(), LIST))
        self.assertTrue(is_closed(self.history.order(), LIST))
        self.assertEqual([len(kind) for kind, _ in self.history.tally()], [2])
        first = criss_cross(r={"f": ["r"]})
        commands = [("merge", "m", "c", "d"), ("ask", ("bases", "c", "d"))]
        self.differ(first, self.history, commands[1:])
        self.assertIs(self.judge(first=first, second=self.history.copied(), commands=commands), True)

    def test_no_worlds_are_taken_for_a_closed_list(self):
        chooser = Chooser(5)
        whole = [criss_cross(c={"f": ["c"]}), Grown(2).grow(7).history, Grown(5).grow(7).history]
        for full in whole:
            for names in [chosen for chosen in subsets(full.names()) if is_closed(full.order(), chosen)][::3]:
                self.history = History.of(core(full, names)) if chooser.below(2) else full
                for first in self.drawn_worlds(chooser, full, names):
                    commands = self.drawn_commands(chooser, names)
                    self.assertIs(takes_worlds(self.history, names, first, self.history, commands), False)

    def drawn_worlds(self, chooser, full, names):
        """Worlds that have the same core on the list, or nearly so."""
        rows, tally = full.facts()
        changed = []
        for name, nearest, files, origins in rows:
            if name not in names and chooser.below(2):
                files, origins = (("p", ("new",)),), (("p", (name,)),)
            changed.append((name, nearest, files, origins))
        more = full.copied()
        more.commit("more", chooser.some_of(names, 2), {"q": ["1"]})
        return [full, History.of((tuple(changed), tally)), History.of(core(full, names)), more]

    def drawn_commands(self, chooser, names):
        there, commands = list(names), []
        for number in range(6):
            one, other, third = [chooser.one_of(there or ["n0"]) for _ in range(3)]
            commands.append(chooser.one_of([
                *[("commit", f"n{number}", (one,) if there else (), (("f", (f"{number}",)),))] * 2,
                *[("merge", f"n{number}", one, other), ("pick", f"n{number}", one, other, third)] * (one != other),
                ("commit", f"n{number}", (), ()),
            ]))
            there.append(f"n{number}")
        for word in ("show", "origins", "reach"):
            commands.extend(("ask", (word, name)) for name in there)
        for word in ("under", "bases", "base", "changes", "lead"):
            commands.extend(("ask", (word, one, other)) for one in there for other in there)
        return commands


if __name__ == "__main__":
    unittest.main()
