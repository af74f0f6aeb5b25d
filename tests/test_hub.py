"""Points 65 to 67: the hub."""

import copy
import unittest

from partclones.errors import BadLetter, BadParty, BadQuestion, NoRoom, Unknown
from partclones.histories.core import core
from partclones.histories.history import History
from partclones.parties.clone import Clone
from partclones.parties.hub import Hub
from partclones.parties.letters import letter_strings
from partclones.parties.reading import read_letter
from partclones.vault.disk import Disk
from plainfleet import picture
from support import spoil


class Case(unittest.TestCase):
    def setUp(self):
        self.disk = Disk(4000)
        self.hub = Hub.fresh(self.disk)
        self.clones = {letter: Clone.fresh(letter, Disk(4000)) for letter in "abc"}

    def opened(self):
        again = Hub.opened(self.disk)
        self.assertIs(type(again), Hub)
        self.assertEqual(picture(again), picture(self.hub))
        self.assertEqual(again.status(), self.hub.status())
        return again

    def idle(self, call, *arguments):
        """What a deed gives that changes nothing and does no operation."""
        before = picture(self.hub)
        self.disk.fuse = 0
        told = call(*arguments)
        self.disk.fuse = None
        self.assertEqual(picture(self.hub), before)
        self.opened()
        return told

    def refused(self, error, call, *arguments):
        before = picture(self.hub), copy.deepcopy(arguments)
        self.disk.fuse = 0
        with self.assertRaises(error) as caught:
            call(*arguments)
        self.disk.fuse = None
        self.assertEqual((picture(self.hub), arguments), before)
        self.opened()
        return caught.exception

    def exchange(self, letter, want=(), moves=(), *back):
        """Let a clone pull and take the answer, and return the answer as a letter."""
        clone = self.clones[letter]
        strings = self.hub.take(clone.pull(list(want), list(moves), *back))
        self.assertTrue(clone.take(strings))
        return read_letter(strings)

    def grown(self):
        """Make a fork and a merge in clone a and send them: a1, a2 and a3 on it, a4 of both; main is a4."""
        clone = self.clones["a"]
        clone.commit([], {"f": ["a", "b", "c"]})
        clone.commit(["a1"], {"f": ["a", "b", "c", "d"]})
        clone.commit(["a1"], {"f": ["b", "c"]})
        clone.merge("a2", "a3")
        return self.exchange("a", ["main"], [("main", "a4")])


class FreshTest(Case):
    def test_a_fresh_hub(self):
        for hub in (self.hub, self.opened()):
            self.assertEqual((hub.kept(), hub.facts(), hub.marks), ([], ((), ()), {}))
            self.assertEqual(hub.status(), [("kept", 0), ("marks", 0), ("records", 0)])
            self.assertEqual([hub.record(letter) for letter in "abcdefgh"], [(0, ())] * 8)
            self.assertEqual(self.idle(hub.forget), [])

    def test_no_room(self):
        self.assertRaises(NoRoom, Hub.fresh, Disk(4))

    def test_record(self):
        for word in ("", "i", "A", "ab", "hub", "a1", "abcdefgh"):
            self.assertEqual(self.refused(BadParty, self.hub.record, word).name, word)
        self.grown()
        self.assertEqual(self.hub.record("a"), (1, ("a1", "a2", "a3", "a4")))
        self.assertEqual(self.hub.record("b"), (0, ()))
        self.assertEqual(dict(self.hub.status())["records"], 1)

    def test_questions(self):
        self.grown()
        self.assertEqual(self.idle(self.hub.ask, ("reach", "a4")), 4)
        self.refused(BadQuestion, self.hub.ask, ("reach",))
        self.assertEqual(self.refused(Unknown, self.hub.ask, ("lead", "a4", "b1")).name, "b1")


class HandleTest(Case):
    def test_the_answer(self):
        self.assertEqual(self.grown(), (
            *("answer", "a", 1, (("a1", ()), ("a2", ("a1",)), ("a3", ("a1",)), ("a4", ("a2", "a3")))),
            *((), (), (("main", "a4"),), ()),
        ))
        self.assertEqual(self.exchange("b", ["main", "old"]), (
            *("answer", "b", 1, (("a4", ()),)),
            (("a4", None, (("f", ("b", "c", "d")),), (("f", ("a1", "a1", "a2")),)),),
            *(((("a4",), 3),), (("main", "a4"),), ()),
        ))
        self.assertEqual(self.exchange("b", [], [], "a3", "a2", "q"), (
            *("answer", "b", 2, (("a1", ()), ("a2", ("a1",)), ("a3", ("a1",)), ("a4", ("a2", "a3")))),
            (
                ("a1", None, (("f", ("a", "b", "c")),), (("f", ("a1",) * 3),)),
                ("a2", None, (("f", ("a", "b", "c", "d")),), (("f", ("a1", "a1", "a1", "a2")),)),
                ("a3", None, (("f", ("b", "c")),), (("f", ("a1", "a1")),)),
            ),
            *((), (), ()),
        ))

    def test_bases_of_what_is_sent(self):
        clone = self.clones["a"]
        clone.commit([], {path: ["1"] for path in "fghk"})
        clone.commit(["a1"], {path: ["1"] for path in "fgh"})
        clone.commit(["a2"], {path: ["1"] for path in "fg"})
        self.exchange("a", [], [("main", "a1")])
        self.exchange("b", ["main"])
        sent = self.exchange("b", [], [], "a3", "a2")[4]
        one = ("1",)
        self.assertEqual([entry[:3] for entry in sent], [("a2", "a1", (("k", None),)), ("a3", "a2", (("h", None),))])
        self.assertEqual(sent[0][3], tuple((path, ("a1",)) for path in "fgh"))
        # What the receiver made itself is a base, too.
        self.clones["c"].commit([], {"f": list(one), "g": list(one), "z": []})
        sent = self.exchange("c", [], [], "a3")[4]
        self.assertEqual([entry[:3] for entry in sent], [("a3", "c1", (("z", None),))])

    def test_the_answer_tells_the_core(self):
        self.grown()
        for letter, back in (("b", ["a4"]), ("b", ["a1", "a2"]), ("c", ["a3", "a4"]), ("c", [])):
            _, _, _, rows, _, tally, _, _ = self.exchange(letter, [], [], *back)
            history = History.of(self.hub.facts())
            facts = core(history, list(self.hub.record(letter)[1]))
            self.assertEqual((rows, tally), (tuple(row[:2] for row in facts[0]), facts[1]))
            self.assertEqual(self.clones[letter].facts(), facts)

    def test_once_more_and_a_lesser_number(self):
        clone = self.clones["a"]
        clone.commit([], {"f": ["x"]})
        first = clone.pull(["main"], [("main", "a1")])
        answer = self.hub.take(first)
        self.assertEqual(self.idle(self.hub.take, first), answer)
        # Only the letter and the number of the request are looked at.
        other = letter_strings(("request", "a", 1, ("q",), (("z1", ("q",), ()),), ("m",), (("m", "q"),), ("p",)))
        self.assertEqual(self.idle(self.hub.take, other), answer)
        clone.commit(["a1"], {})
        second = clone.pull([], [])
        newer = self.hub.take(second)
        self.assertNotEqual(newer, answer)
        for strings in (first, other):
            self.assertIsNone(self.idle(self.hub.take, strings))
        self.assertEqual(self.idle(self.hub.take, second), newer)

    def test_numbers_may_leap(self):
        for number in (5, 9, 10**9):
            strings = letter_strings(("request", "h", number, (), (), (), (), ()))
            self.assertEqual(self.hub.take(strings), ["answer", "h", str(number), "0", "0", "0", "0", "0"])
            self.assertEqual(self.hub.record("h"), (number, ()))
        self.assertIsNone(self.idle(self.hub.take, letter_strings(("request", "h", 10, (), (), (), (), ()))))

    def test_the_same_list_of_strings_whatever_happened_since(self):
        clone = self.clones["a"]
        self.grown()
        self.clones["b"].commit([], {"z": []})
        request = clone.pull(["main", "dev"], [("dev", "a2"), ("main", "a1")], "b1")
        answer = self.hub.take(request)
        self.assertEqual(read_letter(answer)[7], ("main",))
        for deed in (
            lambda: self.exchange("b", ["main"], [("dev", "b1")]),
            self.hub.forget,
            lambda: self.exchange("c", ["main", "dev"]),
            lambda: self.clones["c"].commit(["a4"], {"f": []}),
            lambda: self.exchange("c", [], [("main", "c1"), ("dev", "c1")]),
            self.hub.forget,
        ):
            deed()
            self.assertEqual(self.idle(self.hub.take, request), answer)
            self.hub = self.opened()
        self.assertTrue(clone.take(answer))
        self.assertEqual(clone.marks, {"dev": "a2", "main": "a4"})
        self.assertEqual(self.hub.marks, {"dev": "c1", "main": "c1"})

    def test_made_versions(self):
        clone = self.clones["a"]
        clone.commit([], {"f": ["x", "y"]})
        clone.commit(["a1"], {"f": ["y"], "g": [""]})
        first = clone.pull([], [])
        self.hub.take(first)
        facts = self.hub.facts()
        # The answer is lost; the made versions are sent again and are not added again.
        clone.commit(["a2", "a1"], {"f": ["x"]})
        answer = self.hub.take(clone.pull([], []))
        self.assertEqual(self.hub.kept(), ["a1", "a2", "a3"])
        self.assertEqual(self.hub.facts()[0][:2], facts[0])
        self.assertEqual(self.hub.facts(), clone.facts())
        self.assertEqual(read_letter(answer)[4], ())
        self.assertTrue(clone.take(answer))

    def test_a_letter_that_is_no_request(self):
        self.grown()
        answer = self.hub.take(self.clones["b"].pull([], []))
        self.assertEqual(self.refused(BadLetter, self.hub.take, answer).place, 0)
        request = self.clones["a"].pull(["main"], [])
        for strings, place in (
            ([], 0), (["", "a"], 0), (request[:-1], len(request) - 1), ([*request, "0"], len(request)),
            (["request", "hub"], 1), (["answer", "a", "0"], 2), (["answer", "c", "1", "0", "0", "0", "0", "0"], 0),
        ):
            self.assertEqual(self.refused(BadLetter, self.hub.take, strings).place, place)

    def test_nothing_is_held(self):
        self.clones["a"].commit([], {"f": ["x"]})
        request = self.clones["a"].pull(["m"], [("m", "a1")])
        passed = list(request)
        answer = self.hub.take(passed)
        self.assertEqual(passed, request)
        before = list(answer)
        spoil([passed, answer])
        again = self.hub.take(request)
        self.assertEqual(again, before)
        again.clear()
        self.assertEqual(self.hub.take(request), before)
        for call in (self.hub.kept, self.hub.status, lambda: self.hub.marks, self.hub.forget):
            first = call()
            told = copy.deepcopy(first)
            spoil(first)
            self.assertEqual(call(), told)
        self.opened()


class MarkTest(Case):
    def setUp(self):
        super().setUp()
        self.grown()

    def moved(self, letter, *moves):
        """The marks of the hub after moves, and the refused ones."""
        return self.hub.marks, self.exchange(letter, [], moves)[7]

    def test_moves(self):
        for moves, refused, marks in (
            # A new mark; forward; to itself; back, which is refused.
            ([("old", "a1")], (), {"main": "a4", "old": "a1"}),
            ([("old", "a2")], (), {"main": "a4", "old": "a2"}),
            ([("old", "a2")], (), {"main": "a4", "old": "a2"}),
            ([("old", "a1")], ("old",), {"main": "a4", "old": "a2"}),
            # Neither of them under the other.
            ([("old", "a3")], ("old",), {"main": "a4", "old": "a2"}),
            ([("old", "a4")], (), {"main": "a4", "old": "a4"}),
            # Several, of which some are refused, told in their order.
            ([("z", "a3"), ("old", "a1"), ("b", "a1"), ("main", "a2")], ("old", "main"),
             {"main": "a4", "old": "a4", "z": "a3", "b": "a1"}),
        ):
            self.assertEqual(self.exchange("a", [], moves)[7], refused)
            self.assertEqual(self.hub.marks, marks)
            self.assertEqual(list(self.hub.marks), sorted(marks))
            self.opened()

    def test_one_mark_in_a_row_of_requests(self):
        self.clones["a"].commit(["a4"], {"f": []})
        self.exchange("a", [], [("m", "a4")])
        self.exchange("b", ["m"])
        # Each clone sees the newest one, and the second one is refused.
        self.clones["b"].commit(["a4"], {"g": []})
        self.assertEqual(self.exchange("a", ["m"], [("m", "a5")])[6:], ((("m", "a5"),), ()))
        self.assertEqual(self.exchange("b", ["m"], [("m", "b1")])[6:], ((("m", "a5"),), ("m",)))
        self.clones["b"].merge("a5", "b1")
        self.assertEqual(self.exchange("b", ["m"], [("m", "b2")])[6:], ((("m", "b2"),), ()))
        self.assertEqual(self.exchange("a", ["m"], [("m", "a5")])[6:], ((("m", "b2"),), ("m",)))

    def test_wanted_marks(self):
        answer = self.exchange("b", ["none", "old", "main"], [])
        self.assertEqual((answer[6], self.clones["b"].marks), ((("main", "a4"),), {"main": "a4"}))
        # The marks of the answer ascend, and a mark of the same request counts.
        answer = self.exchange("b", ["z", "main", "b", "none"], [("z", "a4"), ("b", "a4")])
        self.assertEqual(answer[6], (("b", "a4"), ("main", "a4"), ("z", "a4")))
        self.assertEqual(self.exchange("b")[6], ())
        self.assertEqual(self.clones["b"].marks, {})

    def test_marks_are_not_taken_away(self):
        for letter in "abc":
            self.exchange(letter)
        self.assertEqual(self.hub.marks, {"main": "a4"})


class LotTest(Case):
    def test_the_recorded_lot(self):
        self.grown()
        # A wanted mark, names back, and those that the hub does not keep.
        self.exchange("b", ["main", "none"], [], "a2", "q7", "b1")
        self.assertEqual(self.hub.record("b"), (1, ("a2", "a4")))
        # The lot of the request and its made versions, closed.
        self.clones["b"].commit(["a2"], {})
        self.exchange("b", [], [], "a3")
        self.assertEqual(self.hub.record("b"), (2, ("a1", "a2", "a3", "a4", "b1")))
        # What the clone forgets is no longer recorded with its next request.
        self.clones["b"].keep(["b1"])
        self.assertEqual(self.hub.record("b"), (2, ("a1", "a2", "a3", "a4", "b1")))
        self.exchange("b")
        self.assertEqual(self.hub.record("b"), (3, ("b1",)))
        self.clones["b"].keep([])
        self.exchange("b")
        self.assertEqual(self.hub.record("b"), (4, ()))
        self.assertEqual(self.hub.record("a"), (1, ("a1", "a2", "a3", "a4")))
        self.assertEqual(dict(self.hub.status()), {"kept": 5, "marks": 1, "records": 2})
        self.opened()

    def test_the_recorded_lot_is_a_closure(self):
        self.grown()
        self.exchange("b", [], [], "a2", "a3")
        self.assertEqual(self.hub.record("b"), (1, ("a1", "a2", "a3")))
        self.assertEqual(self.clones["b"].kept(), ["a1", "a2", "a3"])

    def test_forget(self):
        self.grown()
        self.assertEqual(self.idle(self.hub.forget), ["a1", "a2", "a3", "a4"])
        self.exchange("a", [], [("old", "a2")])
        self.clones["a"].keep([])
        self.assertEqual(self.idle(self.hub.forget), ["a1", "a2", "a3", "a4"])
        self.exchange("a")
        self.exchange("b", ["old"])
        # The versions of marks, and what is recorded for clones, with all merge bases.
        self.assertEqual(self.hub.forget(), ["a2", "a4"])
        self.assertEqual(self.hub.facts()[1], ((("a2",), 1), (("a4",), 1)))
        self.opened()
        self.clones["b"].commit(["a2"], {})
        self.clones["c"].commit([], {"c": []})
        self.exchange("b", [], [("old", "b1")])
        self.exchange("c")
        self.assertEqual(self.hub.forget(), ["a2", "a4", "b1", "c1"])
        self.clones["c"].keep([])
        self.exchange("c")
        self.assertEqual(self.hub.forget(), ["a2", "a4", "b1"])
        self.assertEqual(self.idle(self.hub.forget), ["a2", "a4", "b1"])
        # A version that was forgotten is asked back in vain.
        answer = self.exchange("c", [], [], "a1", "c1", "a2")
        self.assertEqual([row[0] for row in answer[3]], ["a2"])

    def test_the_hub_keeps_what_lies_between(self):
        self.grown()
        self.exchange("b", [], [], "a2")
        self.exchange("c", [], [], "a3")
        self.clones["a"].keep([])
        self.exchange("a")
        self.assertEqual(self.hub.forget(), ["a1", "a2", "a3", "a4"])
        self.exchange("b")
        self.clones["b"].keep([])
        self.exchange("b")
        self.assertEqual(self.hub.forget(), ["a3", "a4"])


if __name__ == "__main__":
    unittest.main()
