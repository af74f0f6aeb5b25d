"""Points 62 to 64: clones."""

import copy
import unittest

from partclones.errors import (
    BadLetter, BadMark, BadName, BadParty, BadQuestion, BadTree, NoRoom, Repeated, TooLarge, TooMany, Unknown,
)
from partclones.histories.core import core
from partclones.parties.clone import Clone
from partclones.parties.hub import Hub
from partclones.parties.letters import letter_strings
from partclones.parties.reading import read_letter
from partclones.vault.disk import Disk
from plainfleet import picture
from support import example, is_plain, spoil

NINE = [f"m{number}" for number in range(9)]


class Case(unittest.TestCase):
    def setUp(self):
        self.disk = Disk(4000)
        self.clone = Clone.fresh("a", self.disk)
        self.hub = Hub.fresh(Disk(4000))

    def opened(self):
        """Check that the clone that is opened from the disk is like this one."""
        again = Clone.opened(self.disk)
        self.assertIs(type(again), Clone)
        self.assertEqual(picture(again), picture(self.clone))
        self.assertEqual((again.letter, again.status()), (self.clone.letter, self.clone.status()))
        return again

    def refused(self, error, call, *arguments):
        """The error of a deed that is refused: it changes nothing and does no operation."""
        before = picture(self.clone), copy.deepcopy(arguments)
        self.disk.fuse = 0
        with self.assertRaises(error) as caught:
            call(*arguments)
        self.disk.fuse = None
        self.assertEqual((picture(self.clone), arguments), before)
        self.opened()
        return caught.exception

    def idle(self, call, *arguments):
        """What a deed gives that changes nothing and does no operation."""
        before = picture(self.clone)
        self.disk.fuse = 0
        told = call(*arguments)
        self.disk.fuse = None
        self.assertEqual(picture(self.clone), before)
        self.opened()
        return told

    def exchange(self, want=(), moves=(), *back):
        """Pull, let the hub handle the request, and take the answer."""
        return self.clone.take(self.hub.take(self.clone.pull(list(want), list(moves), *back)))

    def grown(self):
        """Make a fork and a merge: a1, a2 and a3 on it, a4 of both."""
        self.clone.commit([], {"f": ["a", "b", "c"]})
        self.clone.commit(["a1"], {"f": ["a", "b", "c", "d"]})
        self.clone.commit(["a1"], {"f": ["b", "c"]})
        self.clone.merge("a2", "a3")


class FreshTest(Case):
    def test_a_fresh_clone(self):
        for letter in "abcdefgh":
            disk = Disk(4000)
            clone = Clone.fresh(letter, disk)
            self.assertIs(type(clone), Clone)
            for one in (clone, Clone.opened(disk)):
                self.assertEqual((one.letter, one.number, one.kept(), one.facts()), (letter, 0, [], ((), ())))
                self.assertEqual((one.marks, one.made(), one.again()), ({}, (), None))
                self.assertEqual(one.status(), [("kept", 0), ("marks", 0), ("made", 0), ("open", 0)])

    def test_bad_letters(self):
        for letter in ("", "i", "A", "ab", "hub", "a1", " a", "z", "abcdefgh", "1"):
            disk = Disk(4)
            disk.fuse = 0
            with self.assertRaises(BadParty) as caught:
                Clone.fresh(letter, disk)
            self.assertEqual(caught.exception.name, letter)
            self.assertEqual([disk.read(at) for at in range(4)], [None] * 4)

    def test_no_room(self):
        self.assertRaises(NoRoom, Clone.fresh, "a", Disk(4))

    def test_two_clones_on_one_disk(self):
        self.clone.commit([], {})
        other = self.opened()
        other.commit(["a1"], {"f": []})
        self.assertEqual(Clone.opened(self.disk).kept(), ["a1", "a2"])
        self.assertEqual(self.clone.kept(), ["a1"])


class MakeTest(Case):
    def test_commit(self):
        self.assertEqual(self.clone.commit([], {"g": [], "f": ["x"]}), "a1")
        self.assertEqual(self.clone.commit(["a1"], {"f": ["x", "y"]}), "a2")
        self.assertEqual(self.clone.commit(["a2", "a1"], {"f": ["x", "y"]}), "a3")
        self.assertEqual(self.clone.commit([], {}), "a4")
        self.assertEqual(self.clone.made(), (
            ("a1", (), (("f", ("x",)), ("g", ()))),
            ("a2", ("a1",), (("f", ("x", "y")), ("g", None))),
            ("a3", ("a2", "a1"), ()),
            ("a4", (), ()),
        ))
        self.assertEqual(self.clone.kept(), ["a1", "a2", "a3", "a4"])
        self.assertEqual(self.clone.ask(("origins", "a3")), (("f", ("a1", "a2")),))
        self.assertEqual(self.clone.ask(("reach", "a3")), 3)
        self.opened()

    def test_merge(self):
        self.grown()
        self.clone.commit(["a1"], {"f": ["b", "c", "e"], "g": []})
        self.assertEqual(self.clone.made()[3], ("a4", ("a2", "a3"), (("f", ("b", "c", "d")),)))
        self.assertEqual(self.clone.merge("a5", "a4"), ("a6", (("f", 1),)))
        clash = ("b", "c", "<<<<<<<", "e", "|||||||", "=======", "d", ">>>>>>>")
        self.assertEqual(self.clone.made()[5], ("a6", ("a5", "a4"), (("f", clash),)))
        self.assertEqual(self.clone.ask(("show", "a6")), (("f", clash), ("g", ())))
        self.opened()

    def test_pick(self):
        self.grown()
        self.assertEqual(self.clone.pick("a1", "a2", "a3"), ("a5", ()))
        self.assertEqual(self.clone.made()[4], ("a5", ("a3",), (("f", ("b", "c", "d")),)))
        self.assertEqual(self.clone.pick("a3", "a3", "a3"), ("a6", ()))
        self.assertEqual(self.clone.pick("a1", "a1", "a3"), ("a7", ()))
        self.clone.commit([], {})
        self.assertEqual(self.clone.pick("a1", "a2", "a8"), ("a9", (("f", 0),)))
        self.opened()

    def test_the_same_as_in_a_history(self):
        self.grown()
        self.clone.pick("a1", "a2", "a3")
        renamed = {"r": "a1", "x": "a2", "y": "a3", "m": "a4"}
        history = example()
        for name in renamed:
            self.assertEqual(self.clone.ask(("show", renamed[name])), tuple(
                (path, tuple(lines)) for path, lines in history.tree(name).items()
            ))
            self.assertEqual(self.clone.ask(("reach", renamed[name])), history.reach([name]))

    def test_refused(self):
        self.grown()
        for error, names, name in (
            (Unknown, ["a1", "b1"], "b1"), (Repeated, ["a1", "a1", "b1"], "a1"), (Unknown, ["a5"], "a5"),
        ):
            found = self.refused(error, self.clone.commit, names, {"NO": []})
            self.assertEqual(found.name, name)
        error = self.refused(BadTree, self.clone.commit, ["a1"], {"f": [], "g": ["a", "A"]})
        self.assertEqual((error.path, error.place), ("g", 1))
        self.refused(BadTree, self.clone.commit, [], {f"p{number}": [] for number in range(9)})
        for error, one, other, name in (
            *[(Unknown, "q", "q", "q"), (Unknown, "a1", "q", "q")],
            *[(Repeated, "a1", "a1", "a1"), (Unknown, "a5", "a1", "a5")],
        ):
            self.assertEqual(self.refused(error, self.clone.merge, one, other).name, name)
        for names in (("q", "a1", "a1"), ("a1", "q", "a9"), ("a1", "a1", "q"), ("q", "q2", "q3")):
            name = [name for name in names if name not in self.clone.kept()][0]
            self.assertEqual(self.refused(Unknown, self.clone.pick, *names).name, name)
        self.assertEqual(self.clone.commit([], {}), "a5")

    def test_too_large(self):
        self.clone.commit([], {"f": ["a"] * 20})
        self.clone.commit([], {"f": ["b"] * 20})
        self.assertEqual(self.refused(TooLarge, self.clone.merge, "a1", "a2").path, "f")
        self.clone.commit([], {})
        self.clone.commit(["a3"], {f"p{number}": [] for number in range(8)})
        self.assertEqual(self.refused(TooLarge, self.clone.pick, "a3", "a4", "a1").path, "p7")

    def test_nothing_is_held(self):
        parents, tree = [], {"f": ["x"]}
        self.clone.commit(parents, tree)
        self.clone.commit(["a1"], tree)
        self.assertEqual((parents, tree), ([], {"f": ["x"]}))
        spoil([parents, tree])
        self.assertEqual(self.clone.ask(("show", "a2")), (("f", ("x",)),))
        for call in (self.clone.kept, self.clone.status, lambda: self.clone.marks, self.clone.made):
            first = call()
            before = copy.deepcopy(first)
            spoil(first)
            self.assertEqual(call(), before)
        self.opened()


class AskTest(Case):
    def test_questions(self):
        self.grown()
        self.assertEqual(self.idle(self.clone.ask, ("bases", "a2", "a3")), ("a1",))
        self.assertEqual(self.idle(self.clone.ask, ("lead", "a4", "a3")), 2)
        self.refused(BadQuestion, self.clone.ask, ("what", "a1"))
        self.refused(BadQuestion, self.clone.ask, ())
        self.assertEqual(self.refused(Unknown, self.clone.ask, ("under", "a1", "q")).name, "q")

    def test_all_that_only_tells_does_no_operation(self):
        self.grown()
        self.clone.pull(["main"], [("main", "a1")])
        for call in (
            *[self.clone.kept, self.clone.facts, self.clone.made, self.clone.status, self.clone.again],
            *[lambda: self.clone.marks, lambda: self.clone.letter, lambda: self.clone.number],
        ):
            self.assertEqual(self.idle(call), call())


class KeepTest(Case):
    def test_keep(self):
        self.grown()
        self.exchange()
        self.assertEqual(self.clone.keep(["a3", "a2"]), ["a1", "a2", "a3"])
        self.assertEqual(self.clone.ask(("reach", "a2")), 2)
        self.assertEqual(self.clone.keep(["a2"]), ["a2"])
        self.assertEqual(self.clone.facts()[1], ((("a2",), 1),))
        self.assertEqual(self.clone.keep([]), [])
        self.assertEqual(self.clone.facts(), ((), ()))
        self.opened()

    def test_the_closure_of_the_names_and_the_made_versions(self):
        self.grown()
        self.exchange()
        self.assertEqual(self.clone.commit(["a3"], {}), "a5")
        self.assertEqual(self.clone.keep(["a2"]), ["a1", "a2", "a5"])
        self.assertEqual(self.clone.keep([]), ["a5"])
        self.assertEqual(self.clone.made(), (("a5", ("a3",), (("f", None),)),))
        self.opened()

    def test_numbers_are_not_used_again(self):
        self.grown()
        self.exchange()
        self.clone.keep(["a3"])
        self.assertEqual(self.clone.commit(["a3"], {}), "a5")
        self.exchange()
        self.clone.keep([])
        self.assertEqual(self.opened().commit([], {}), "a6")

    def test_a_keep_that_forgets_nothing(self):
        self.grown()
        self.exchange()
        names = self.clone.kept()
        self.assertEqual(self.idle(self.clone.keep, names), names)
        self.clone.pull([], [])
        self.assertEqual(dict(self.clone.status())["open"], 1)
        facts = self.clone.facts()
        self.assertEqual(self.clone.keep(names), names)
        self.assertEqual((self.clone.again(), self.clone.facts(), self.clone.number), (None, facts, 2))
        self.assertEqual(dict(self.clone.status())["open"], 0)
        self.assertEqual(self.idle(self.clone.keep, names), names)

    def test_marks_of_forgotten_versions(self):
        self.grown()
        self.exchange(["old", "main", "none"], [("main", "a4"), ("old", "a1")])
        self.assertEqual(self.clone.marks, {"main": "a4", "old": "a1"})
        self.assertEqual(list(self.clone.marks), ["main", "old"])
        self.clone.keep(["a2", "a3"])
        self.assertEqual(self.clone.marks, {"old": "a1"})
        self.opened()

    def test_refused(self):
        self.grown()
        self.clone.pull([], [])
        for error, names, name in (
            (Unknown, ["a1", "q", "a1"], "q"), (Repeated, ["a1", "a2", "a1", "q"], "a1"), (Unknown, [""], ""),
        ):
            self.assertEqual(self.refused(error, self.clone.keep, names).name, name)
        names = ["a1"]
        self.clone.keep(names).append("q")
        self.assertEqual((names, self.clone.kept()), (["a1"], ["a1", "a2", "a3", "a4"]))


class PullTest(Case):
    def test_a_request(self):
        self.grown()
        self.exchange()
        self.clone.commit(["a4"], {"f": ["b"]})
        self.clone.commit(["a5", "a1"], {})
        strings = self.clone.pull(["main", "dev"], [("dev", "a6"), ("main", "a1")], "b1", "a9")
        made = (("a5", ("a4",), (("f", ("b",)),)), ("a6", ("a5", "a1"), (("f", None),)))
        letter = (
            *("request", "a", 2, ("a1", "a2", "a3", "a4"), made),
            *(("main", "dev"), (("dev", "a6"), ("main", "a1")), ("b1", "a9")),
        )
        self.assertEqual(read_letter(strings), letter)
        self.assertEqual(strings, letter_strings(letter))
        self.assertEqual((self.clone.number, dict(self.clone.status())["open"]), (2, 1))
        self.opened()

    def test_the_smallest_request(self):
        self.assertEqual(self.clone.pull([], []), ["request", "a", "1", "0", "0", "0", "0", "0"])

    def test_eight_of_each(self):
        self.clone.commit([], {})
        moves = [(mark, "a1") for mark in NINE]
        strings = self.clone.pull(NINE[:8], moves[:8], *NINE[1:])
        self.assertEqual(read_letter(strings)[5:], (tuple(NINE[:8]), tuple(moves[:8]), tuple(NINE[1:])))
        self.refused(TooMany, self.clone.pull, NINE, [])
        self.refused(TooMany, self.clone.pull, [], moves)
        self.refused(TooMany, self.clone.pull, [], [], *NINE)

    def test_refused(self):
        self.clone.commit([], {})
        for error, arguments, name in (
            (BadMark, (["m", "NO", "m"], []), "NO"),
            (BadMark, ([""], []), ""),
            (Repeated, (["m", "n", "m", "NO"], []), "m"),
            (BadMark, ([], [("m", "a1"), ("1a", "q")]), "1a"),
            (BadMark, ([], [("NO", "a1"), ("NO", "a1")]), "NO"),
            (Repeated, ([], [("m", "a1"), ("m", "q")]), "m"),
            (Unknown, ([], [("m", "q"), ("NO", "a1")]), "q"),
            (Unknown, ([], [("m", "a2")]), "a2"),
            (BadName, ([], [], "a1", "abcdefg"), "abcdefg"),
            (BadName, ([], [], "A", "A"), "A"),
            (Repeated, ([], [], "b1", "b2", "b1", "NO"), "b1"),
        ):
            self.assertEqual(self.refused(error, self.clone.pull, *arguments).name, name)
        self.assertEqual(self.clone.number, 0)

    def test_which_error_comes_first(self):
        self.clone.commit([], {})
        moves = [("m", "q")] * 9
        self.refused(TooMany, self.clone.pull, ["NO"] * 9, moves, "NO")
        self.assertEqual(self.refused(BadMark, self.clone.pull, ["NO"], moves, "NO").name, "NO")
        self.refused(TooMany, self.clone.pull, ["m"], moves, "NO")
        self.assertEqual(self.refused(Unknown, self.clone.pull, ["m"], moves[:8], "NO").name, "q")
        self.refused(TooMany, self.clone.pull, ["m"], [("m", "a1")], *["NO"] * 9)
        self.assertEqual(self.refused(BadName, self.clone.pull, ["m"], [("m", "a1")], "NO").name, "NO")

    def test_again(self):
        self.assertIsNone(self.idle(self.clone.again))
        self.clone.commit([], {"f": ["", "x"]})
        strings = self.clone.pull(["main"], [("main", "a1")], "b1")
        self.assertEqual(self.idle(self.clone.again), strings)
        # Whatever the clone does since, short of a keep, the open request stays the same.
        self.clone.commit(["a1"], {})
        self.clone.merge("a1", "a2")
        self.clone.pick("a1", "a2", "a3")
        self.assertEqual(self.idle(self.clone.again), strings)
        self.assertEqual(self.opened().again(), strings)
        newer = self.clone.pull([], [])
        self.assertEqual(self.clone.again(), newer)
        self.assertEqual(read_letter(newer)[2], 2)
        self.clone.keep(["a1"])
        self.assertIsNone(self.idle(self.clone.again))
        self.assertEqual(read_letter(self.clone.pull([], []))[2], 3)

    def test_nothing_is_held(self):
        self.clone.commit([], {})
        want, moves = ["m"], [("m", "a1")]
        first = self.clone.pull(want, moves, "b1")
        before = list(first)
        self.assertEqual((want, moves), (["m"], [("m", "a1")]))
        spoil([want, moves, first])
        self.clone.again().clear()
        self.assertEqual(self.clone.again(), before)


class TakeTest(Case):
    def test_an_answer(self):
        self.grown()
        strings = self.clone.pull([], [])
        answer = self.hub.take(strings)
        passed = list(answer)
        facts = self.clone.facts()
        self.assertIs(self.clone.take(passed), True)
        self.assertEqual(passed, answer)
        self.assertEqual((self.clone.facts(), self.clone.made(), self.clone.again()), (facts, (), None))
        self.assertEqual(self.clone.status(), [("kept", 4), ("marks", 0), ("made", 0), ("open", 0)])
        self.opened()
        # The same answer for a second time has no effect.
        self.assertIs(self.idle(self.clone.take, answer), False)

    def test_versions_of_others(self):
        other = Clone.fresh("b", Disk(4000))
        self.grown()
        self.exchange([], [("main", "a4"), ("old", "a2")])
        self.assertTrue(other.take(self.hub.take(other.pull(["main", "old", "q"], []))))
        self.assertEqual((other.kept(), other.marks), (["a2", "a4"], {"main": "a4", "old": "a2"}))
        self.assertEqual(other.facts(), (
            (
                ("a2", (), (("f", ("a", "b", "c", "d")),), (("f", ("a1", "a1", "a1", "a2")),)),
                ("a4", ("a2",), (("f", ("b", "c", "d")),), (("f", ("a1", "a1", "a2")),)),
            ),
            ((("a2",), 1), (("a4",), 1)),
        ))
        self.assertEqual(other.ask(("reach", "a4")), 4)
        # What comes back is asked for by its name; marks that are not wanted are there no more.
        self.assertTrue(other.take(self.hub.take(other.pull([], [], "a3", "q1"))))
        self.assertEqual((other.kept(), other.marks), (["a1", "a2", "a3", "a4"], {}))
        self.assertEqual(other.facts(), self.clone.facts())

    def test_no_open_request(self):
        self.clone.commit([], {})
        answer = self.hub.take(self.clone.pull([], []))
        self.clone.keep([])
        self.assertIs(self.idle(self.clone.take, answer), False)
        self.assertEqual(len(self.clone.made()), 1)

    def test_answers_for_others(self):
        self.clone.commit([], {})
        answer = self.hub.take(self.clone.pull([], []))
        for place, string in ((1, "b"), (1, "h"), (2, "2"), (2, "1000000000"), (2, "10")):
            changed = [*answer[:place], string, *answer[place + 1:]]
            self.assertIs(self.idle(self.clone.take, changed), False)
        self.clone.pull([], [])
        self.assertIs(self.idle(self.clone.take, answer), False)
        self.assertIs(self.clone.take(self.hub.take(self.clone.again())), True)

    def test_versions_made_between(self):
        self.grown()
        request = self.clone.pull(["main"], [("main", "a4")])
        self.clone.commit(["a4", "a1"], {"f": ["d", "b"]})
        self.clone.merge("a5", "a2")
        facts = self.clone.facts()
        later = self.clone.made()[4:]
        self.assertEqual(len(later), 2)
        self.assertTrue(self.clone.take(self.hub.take(request)))
        self.assertEqual((self.clone.facts(), self.clone.made()), (facts, later))
        self.assertEqual((self.clone.marks, self.clone.commit([], {})), ({"main": "a4"}, "a7"))
        self.opened()
        self.assertTrue(self.exchange())
        self.assertEqual((self.clone.made(), self.hub.kept()), ((), self.clone.kept()))

    def test_versions_made_between_where_others_come(self):
        other = Clone.fresh("b", Disk(4000))
        self.grown()
        self.exchange([], [("main", "a3")])
        other.take(self.hub.take(other.pull(["main"], [])))
        other.commit(["a3"], {"f": ["b", "c", "z"]})
        request = other.pull([], [], "a2", "a4")
        other.commit(["b1", "a3"], {"f": ["b", "z"]})
        self.assertTrue(other.take(self.hub.take(request)))
        self.assertEqual(other.kept(), ["a1", "a2", "a3", "a4", "b1", "b2"])
        self.assertEqual(other.ask(("origins", "b2")), (("f", ("a1", "b1")),))
        self.assertEqual(other.made(), (("b2", ("b1", "a3"), (("f", ("b", "z")),)),))
        self.assertEqual((other.ask(("reach", "b2")), other.ask(("bases", "b2", "a4"))), (4, ("a3",)))

    def test_a_letter_that_is_no_answer(self):
        self.clone.commit([], {})
        request = self.clone.pull([], [])
        self.assertEqual(self.refused(BadLetter, self.clone.take, request).place, 0)
        answer = self.hub.take(request)
        for strings, place in (
            ([], 0), (["answers"], 0), (answer[:-1], len(answer) - 1), ([*answer, "0"], len(answer)),
            (["answer", "i"], 1), (["request", "a", "0"], 2), (["request", "b", "1", "0", "0", "0", "0", "0"], 0),
        ):
            self.assertEqual(self.refused(BadLetter, self.clone.take, strings).place, place)
        self.assertTrue(self.clone.take(answer))

    def test_forgotten_versions_come_back(self):
        self.grown()
        self.exchange()
        full = self.clone.facts()
        self.clone.keep(["a4"])
        self.assertEqual(self.clone.facts()[1], ((("a4",), 3),))
        self.assertTrue(self.exchange([], [], "a2", "a3"))
        self.assertEqual(self.clone.facts(), full)
        self.assertTrue(is_plain(self.clone.made()))

    def test_what_is_kept_is_the_core(self):
        self.grown()
        self.exchange()
        history = example()
        self.clone.keep(["a4", "a2"])
        rows, tally = core(history, ["m", "x"])
        self.assertEqual([len(part) for part in self.clone.facts()], [len(rows), len(tally)])
        self.assertEqual(self.clone.facts()[1], ((("a2",), 1), (("a4",), 1)))


if __name__ == "__main__":
    unittest.main()
