"""Points 70 to 72: fleets and their events."""

import unittest

from partclones.errors import BadFuse, BadMask, BadParty, BadSize
from partclones.fleet.fleet import Fleet
from partclones.histories.history import History
from partclones.parties.clone import Clone
from partclones.parties.hub import Hub
from plainfleet import Pair, picture
from support import is_plain, spoil

NINE = tuple(f"m{number}" for number in range(9))
ROOT = ("commit", "a", (), (("f", ("a", "b")),))


class Case(unittest.TestCase):
    def setUp(self):
        self.fleet = Fleet()
        self.pair = Pair(self, self.fleet)

    def do(self, *event):
        """Do an event; a plain fleet that does the same is alike."""
        told = self.pair.do(event)
        self.assertTrue(is_plain(told))
        return told

    def seen(self):
        """All that can be seen of the fleet."""
        fleet = self.fleet
        parties = [fleet.clone(letter) for letter in fleet.clone_letters()]
        return [picture(party) for party in [*parties, fleet.hub()]], fleet.waiting(), fleet.full().facts()

    def refused(self, word, *event):
        before = self.seen()
        self.assertEqual(self.do(*event), ("refused", word))
        self.assertEqual(self.seen(), before)

    def exchange(self, who, want=(), moves=(), back=()):
        serial = self.do("pull", who, want, moves, back)[1]
        self.assertEqual(self.do("deliver", self.do("deliver", serial)[1]), ("taken",))

    def grown(self):
        """a1 to a4 of clone a, at the hub, with the mark main."""
        self.do(*ROOT)
        self.do("commit", "a", ("a1",), (("f", ("a", "b", "c")),))
        self.do("commit", "a", ("a1",), (("f", ("b",)),))
        self.do("merge", "a", "a2", "a3")
        self.exchange("a", ("main",), (("main", "a4"),))


class FleetTest(Case):
    def test_sizes(self):
        for clones in (0, 9, -1, 2**70):
            with self.assertRaises(BadSize) as caught:
                Fleet(clones)
            self.assertEqual(caught.exception.value, clones)
        for clones in (1, 2, 8):
            self.assertEqual(Fleet(clones).clone_letters(), list("abcdefgh"[:clones]))
        self.assertEqual(Fleet().clone_letters(), ["a", "b"])
        self.assertEqual(Fleet(clones=3).clone_letters(), ["a", "b", "c"])

    def test_a_new_fleet(self):
        self.assertEqual((self.fleet.waiting(), self.fleet.full().facts()), ([], ((), ())))
        for letter in "ab":
            clone = self.fleet.clone(letter)
            self.assertEqual((type(clone), clone.letter, clone.kept()), (Clone, letter, []))
        self.assertEqual((type(self.fleet.hub()), self.fleet.hub().kept()), (Hub, []))
        self.assertIs(type(self.fleet.full()), History)

    def test_disks(self):
        cells = {who: disk.cells for who, disk in self.fleet._disks.items()}
        self.assertEqual(cells, {"a": 4000, "b": 4000, "hub": 4000})

    def test_parties(self):
        for word in ("c", "hub", "", "ab", "A"):
            with self.assertRaises(BadParty) as caught:
                self.fleet.clone(word)
            self.assertEqual(caught.exception.name, word)
        self.assertIs(self.fleet.clone("a"), self.fleet.clone("a"))
        self.assertIs(self.fleet.hub(), self.fleet.hub())

    def test_what_is_returned_is_new(self):
        self.do(*ROOT)
        self.do("pull", "a", (), (), ())
        self.fleet.full().commit("z", [], {})
        self.assertEqual(self.fleet.full().names(), ["a1"])
        for call in (self.fleet.waiting, self.fleet.clone_letters):
            first = call()
            before = list(first)
            spoil(first)
            self.assertEqual(call(), before)

    def test_two_fleets_stay_apart(self):
        other = Fleet()
        self.do(*ROOT)
        self.do("pull", "a", (), (), ())
        self.assertEqual((other.clone("a").kept(), other.waiting(), other.full().names()), ([], [], []))


class EventTest(Case):
    def test_commit(self):
        self.assertEqual(self.do(*ROOT), ("made", "a1", ()))
        self.assertEqual(self.do("commit", "b", (), ()), ("made", "b1", ()))
        # The tree is that of the first parent with the puts.
        self.assertEqual(self.do("commit", "a", ("a1",), (("g", ()), ("h", None))), ("made", "a2", ()))
        self.assertEqual(self.do("commit", "a", ("a2", "a1"), (("f", None),)), ("made", "a3", ()))
        self.assertEqual(self.do("ask", "a", ("show", "a2")), ("answer", (("f", ("a", "b")), ("g", ()))))
        self.assertEqual(self.do("ask", "a", ("show", "a3")), ("answer", (("g", ()),)))
        self.assertEqual(self.fleet.full().names(), ["a1", "a2", "a3", "b1"])

    def test_refused_commits(self):
        self.grown()
        bad, nine = (("f", ("A",)),), tuple((f"p{number}", ()) for number in range(9))
        for word, event in (
            ("who", ("c", ("q",), bad)), ("who", ("hub", (), ())), ("who", ("", (), ())), ("who", ("ab", (), ())),
            ("unknown", ("a", ("a1", "q"), bad)), ("unknown", ("b", ("a1",), ())), ("unknown", ("a", ("a5",), ())),
            ("repeated", ("a", ("a1", "a1", "q"), bad)), ("put", ("a", ("a1",), (*nine, *bad))),
            ("put", ("a", (), (("f", None), ("f", ())))), ("put", ("a", (), (("NO", None),))),
            ("tree", ("a", ("a1",), nine)), ("tree", ("a", (), nine)), ("tree", ("a", ("a1",), nine[:8])),
        ):
            self.refused(word, "commit", *event)
        self.assertEqual(self.do("commit", "a", (), nine[:8]), ("made", "a5", ()))

    def test_merge_and_pick(self):
        self.grown()
        self.assertEqual(self.do("ask", "a", ("show", "a4")), ("answer", (("f", ("b", "c")),)))
        self.do("commit", "a", ("a1",), (("f", ("x",)),))
        self.assertEqual(self.do("merge", "a", "a5", "a2"), ("made", "a6", (("f", 1),)))
        self.assertEqual(self.do("pick", "a", "a1", "a2", "a3"), ("made", "a7", ()))
        self.assertEqual(self.do("pick", "a", "a2", "a5", "a2"), ("made", "a8", ()))
        for word, event in (
            ("who", ("merge", "c", "q", "q")), ("who", ("merge", "hub", "a1", "a2")),
            ("unknown", ("merge", "a", "a1", "q")), ("unknown", ("merge", "a", "q", "q")),
            ("repeated", ("merge", "a", "a1", "a1")), ("who", ("pick", "hub", "a1", "a1", "a1")),
            ("unknown", ("pick", "a", "q", "a1", "a1")), ("unknown", ("pick", "a", "a1", "q", "a1")),
            ("unknown", ("pick", "a", "a1", "a1", "q")), ("unknown", ("pick", "b", "a1", "a1", "a1")),
        ):
            self.refused(word, *event)

    def test_too_large(self):
        self.do("commit", "a", (), (("f", ("a",) * 20),))
        self.do("commit", "a", (), (("f", ("b",) * 20),))
        self.do("commit", "a", (), ())
        self.refused("large", "merge", "a", "a1", "a2")
        self.refused("large", "pick", "a", "a3", "a1", "a2")

    def test_keep_and_forget(self):
        self.grown()
        self.assertEqual(self.do("keep", "a", ("a3", "a2")), ("kept", ("a1", "a2", "a3")))
        self.assertEqual(self.do("forget"), ("kept", ("a1", "a2", "a3", "a4")))
        self.assertEqual(self.do("keep", "a", ()), ("kept", ()))
        self.exchange("a")
        self.assertEqual(self.do("forget"), ("kept", ("a4",)))
        self.assertEqual(self.do("ask", "hub", ("reach", "a4")), ("answer", 4))
        self.assertEqual(self.do("keep", "b", ()), ("kept", ()))
        for word, event in (
            ("who", ("keep", "hub", ())), ("who", ("keep", "z", ("q",))), ("unknown", ("keep", "b", ("a1",))),
        ):
            self.refused(word, *event)
        self.do(*ROOT)
        self.refused("repeated", "keep", "a", ("a5", "a5", "q"))
        # Forgotten versions stay in the full history.
        self.assertEqual(self.fleet.full().names(), ["a1", "a2", "a3", "a4", "a5"])

    def test_pull_and_deliver(self):
        self.do(*ROOT)
        self.assertEqual(self.do("pull", "a", ("main",), (("main", "a1"),), ("q",)), ("sent", 1))
        self.assertEqual(self.fleet.waiting(), [(1, "a", "hub")])
        self.assertEqual(self.do("deliver", 1), ("sent", 2))
        self.assertEqual(self.fleet.waiting(), [(2, "hub", "a")])
        self.assertEqual(self.do("deliver", 2), ("taken",))
        self.assertEqual((self.fleet.waiting(), self.fleet.clone("a").marks), ([], {"main": "a1"}))
        self.assertEqual(self.do("pull", "b", ("main",), (), ()), ("sent", 3))
        self.do("deliver", 3)
        self.assertEqual(self.do("deliver", 4), ("taken",))
        self.assertEqual(self.do("ask", "b", ("show", "a1")), ("answer", (("f", ("a", "b")),)))

    def test_refused_pulls(self):
        self.do(*ROOT)
        moves = tuple((mark, "a1") for mark in NINE)
        for word, event in (
            ("who", ("hub", NINE, (), ())), ("who", ("c", (), (), ())), ("many", ("a", NINE, moves, NINE)),
            ("mark", ("a", ("m", "NO", "m"), moves, ())), ("repeated", ("a", ("m", "m"), moves, ())),
            ("many", ("a", ("m",), moves, NINE)), ("mark", ("a", (), (("1", "q"),), NINE)),
            ("repeated", ("a", (), (("m", "a1"), ("m", "q")), NINE)), ("unknown", ("a", (), (("m", "q"),), NINE)),
            ("many", ("a", (), moves[:8], NINE)), ("name", ("a", (), (), ("b1", "NO"))),
            ("repeated", ("a", (), (), ("b1", "b1"))), ("unknown", ("b", (), (("m", "a1"),), ())),
        ):
            self.refused(word, "pull", *event)
        self.assertEqual(self.do("pull", "a", NINE[:8], moves[1:], NINE[:8]), ("sent", 1))

    def test_again(self):
        self.assertEqual(self.do("again", "a"), ("nothing",))
        self.do("pull", "a", (), (), ())
        self.assertEqual(self.do("again", "a"), ("sent", 2))
        self.assertEqual(self.fleet.waiting(), [(1, "a", "hub"), (2, "a", "hub")])
        self.do("keep", "a", ())
        self.assertEqual(self.do("again", "a"), ("nothing",))
        self.refused("who", "again", "hub")
        self.refused("who", "again", "c")

    def test_doubled_lost_and_delayed_letters(self):
        self.do(*ROOT)
        self.do("pull", "a", (), (), ())
        self.assertEqual(self.do("double", 1), ("sent", 2))
        self.assertEqual(self.do("deliver", 2), ("sent", 3))
        self.assertEqual(self.do("deliver", 1), ("sent", 4))
        self.assertEqual(self.do("double", 3), ("sent", 5))
        self.assertEqual(self.do("deliver", 5), ("taken",))
        self.assertEqual(self.do("deliver", 4), ("nothing",))
        self.do("commit", "a", ("a1",), ())
        self.do("pull", "a", (), (), ())
        self.do("double", 6)
        self.do("pull", "a", (), (), ())
        self.assertEqual(self.do("lose", 6), ("lost",))
        self.assertEqual(self.do("deliver", 8), ("sent", 9))
        # A request with a lesser number comes late.
        self.assertEqual(self.do("deliver", 7), ("nothing",))
        self.assertEqual(self.do("lose", 3), ("lost",))
        self.assertEqual(self.do("again", "a"), ("sent", 10))
        self.assertEqual(self.do("deliver", 9), ("taken",))
        self.assertEqual(self.do("deliver", 10), ("sent", 11))
        self.assertEqual(self.do("deliver", 11), ("nothing",))
        for serial in (1, 3, 11, 12, 0, -1, 2**70):
            for word in ("deliver", "double", "lose"):
                self.refused("serial", word, serial)

    def test_an_answer_behind_a_keep(self):
        self.do(*ROOT)
        self.do("pull", "a", (), (), ())
        self.do("deliver", 1)
        self.do("keep", "a", ())
        self.assertEqual(self.do("deliver", 2), ("nothing",))
        self.assertEqual(len(self.fleet.clone("a").made()), 1)

    def test_ask(self):
        self.grown()
        for who in ("a", "hub"):
            self.assertEqual(self.do("ask", who, ("lead", "a4", "a3")), ("answer", 2))
            self.assertEqual(self.do("ask", who, ("under", "a4", "a3")), ("answer", False))
            self.refused("question", "ask", who, ("what", "a1"))
            self.refused("question", "ask", who, ())
            self.refused("unknown", "ask", who, ("show", "b1"))
        self.refused("unknown", "ask", "b", ("show", "a1"))
        self.refused("who", "ask", "c", ("what",))
        self.refused("who", "ask", "", ())

    def test_the_full_history_behind_each_event(self):
        self.grown()
        history = History()
        history.commit("a1", [], {"f": ["a", "b"]})
        history.commit("a2", ["a1"], {"f": ["a", "b", "c"]})
        history.commit("a3", ["a1"], {"f": ["b"]})
        history.merge("a4", "a2", "a3")
        self.assertEqual(self.fleet.full().facts(), history.facts())
        self.exchange("b", ("main",))
        self.do("commit", "b", ("a4",), (("f", None),))
        history.commit("b1", ["a4"], {})
        self.assertEqual(self.fleet.full().facts(), history.facts())
        self.do("fall", "b", 1000, 0, ("merge", "b", "b1", "a4"))
        history.merge("b2", "b1", "a4")
        self.assertEqual(self.fleet.full().facts(), history.facts())


class FallTest(Case):
    def setUp(self):
        super().setUp()
        self.grown()

    def test_a_fall_that_cuts_nothing(self):
        for who, event, told in (
            ("a", ("commit", "a", ("a4",), ()), ("made", "a5", ())),
            ("a", ("merge", "a", "a5", "a1"), ("made", "a6", ())),
            ("a", ("pull", "a", (), (), ()), ("sent", 3)),
            ("hub", ("deliver", 3), ("sent", 4)),
            ("a", ("deliver", 4), ("taken",)),
            ("a", ("keep", "a", ("a1",)), ("kept", ("a1",))),
            ("hub", ("forget",), ("kept", ("a1", "a2", "a3", "a4", "a5", "a6"))),
            ("a", ("ask", "a", ("reach", "a1")), ("answer", 1)),
            ("hub", ("ask", "hub", ("reach", "a1")), ("answer", 1)),
            ("b", ("again", "b"), ("nothing",)),
        ):
            before = self.fleet.hub() if who == "hub" else self.fleet.clone(who)
            self.assertEqual(self.do("fall", who, 1000, 0, event), ("fell", told))
            after = self.fleet.hub() if who == "hub" else self.fleet.clone(who)
            self.assertIsNot(after, before)
            self.assertIs(type(after), type(before))

    def test_what_needs_no_power(self):
        for who, event, told in (
            ("a", ("ask", "a", ("show", "a1")), ("answer", (("f", ("a", "b")),))),
            ("a", ("keep", "a", ("a1", "a2", "a3", "a4")), ("kept", ("a1", "a2", "a3", "a4"))),
            ("hub", ("forget",), ("kept", ("a1", "a2", "a3", "a4"))),
            ("a", ("again", "a"), ("nothing",)),
            ("a", ("commit", "a", ("q",), ()), ("refused", "unknown")),
        ):
            self.assertEqual(self.do("fall", who, 0, 0, event), ("fell", told))

    def test_cut_events(self):
        for fuse in range(12):
            for mask in (0, 1, 3, 2**40):
                self.setUp()
                told = self.do("fall", "a", fuse, mask, ("commit", "a", ("a4",), ()))
                self.assertIn(told, (("fell", None), ("fell", ("made", "a5", ()))))
                there = "a5" in self.fleet.clone("a").kept()
                self.assertEqual("a5" in self.fleet.full(), there)
                self.assertEqual(self.do("commit", "a", (), ())[1], "a6" if there else "a5")

    def test_cut_letters(self):
        self.assertEqual(self.do("fall", "a", 0, 0, ("pull", "a", (), (), ())), ("fell", None))
        self.assertEqual(self.fleet.waiting(), [])
        self.do("pull", "a", (), (), ())
        self.assertEqual(self.do("fall", "hub", 0, 0, ("deliver", 3)), ("fell", None))
        self.assertEqual(self.fleet.waiting(), [])
        self.assertEqual(self.do("again", "a"), ("sent", 4))
        self.assertEqual(self.do("deliver", 4), ("sent", 5))
        self.assertEqual(self.do("fall", "a", 2, 0, ("deliver", 5)), ("fell", None))
        self.assertEqual(self.fleet.waiting(), [])
        self.do("again", "a")
        self.assertEqual(self.do("deliver", 6), ("sent", 7))
        self.assertEqual(self.do("deliver", 7), ("taken",))

    def test_a_handled_request_whose_answer_is_cut(self):
        # Where the fall carries out the last write of the hub, the request counts as handled.
        self.do("commit", "a", ("a4",), ())
        handled = []
        for fuse in range(30):
            serial = self.do("pull", "a", (), (), ())[1]
            told = self.do("fall", "hub", fuse, 2**40 - 1, ("deliver", serial))
            handled.append((told == ("fell", None), self.fleet.hub().record("a")[0] == self.fleet.clone("a").number))
            if told != ("fell", None):
                break
            serial = self.do("again", "a")[1]
            self.assertEqual(self.do("deliver", self.do("deliver", serial)[1]), ("taken",))
        self.assertEqual(handled[-1], (False, True))
        self.assertIn((True, True), handled)
        self.assertIn((True, False), handled)

    def test_events_of_others(self):
        self.do("pull", "a", (), (), ())
        self.do("pull", "b", (), (), ())
        self.do("deliver", 3)
        for who, event, word in (
            ("a", ("commit", "b", (), ()), "who"), ("b", ("commit", "a", (), ()), "who"),
            ("hub", ("ask", "a", ("show", "a1")), "who"), ("a", ("forget",), "who"), ("a", ("ask", "hub", ()), "who"),
            ("a", ("deliver", 4), "who"), ("hub", ("deliver", 5), "who"), ("b", ("deliver", 5), "who"),
            ("a", ("deliver", 3), "serial"), ("hub", ("deliver", 99), "serial"), ("b", ("deliver", 0), "serial"),
            ("a", ("double", 4), "who"), ("hub", ("lose", 99), "who"), ("a", ("double", 99), "who"),
            ("hub", ("commit", "hub", (), ()), "who"), ("hub", ("again", "hub"), "who"), ("a", ("again", "z"), "who"),
        ):
            before = self.seen()
            party = self.fleet.hub() if who == "hub" else self.fleet.clone(who)
            self.assertEqual(self.do("fall", who, 1000, 0, event), ("fell", ("refused", word)))
            self.assertEqual(self.seen(), before)
            # It falls, even if its event is refused.
            self.assertIsNot(self.fleet.hub() if who == "hub" else self.fleet.clone(who), party)

    def test_no_such_party(self):
        for who in ("c", "", "Hub", "ab"):
            self.refused("who", "fall", who, 2000, -1, ROOT)

    def test_bad_fuses_and_masks(self):
        for fuse, mask, error, value in (
            (-1, 0, BadFuse, -1), (1001, 0, BadFuse, 1001), (-1, -1, BadFuse, -1), (2**70, 2**70, BadFuse, 2**70),
            (0, -1, BadMask, -1), (1000, 2**40 + 1, BadMask, 2**40 + 1), (3, 2**70, BadMask, 2**70),
        ):
            for event in (("commit", "a", (), ()), ("commit", "b", (), ()), ("deliver", 99)):
                before, party = self.seen(), self.fleet.clone("a")
                with self.assertRaises(error) as caught:
                    self.fleet.do(("fall", "a", fuse, mask, event))
                self.assertEqual(caught.exception.value, value)
                self.assertEqual(self.seen(), before)
                self.assertIs(self.fleet.clone("a"), party)
        self.assertEqual(self.do("commit", "a", (), ()), ("made", "a5", ()))
        self.assertEqual(self.do("fall", "a", 1000, 2**40, ("commit", "a", (), ())), ("fell", ("made", "a6", ())))

    def test_the_fuse_is_gone_behind_the_fall(self):
        self.do("fall", "a", 0, 0, ("ask", "a", ("show", "a1")))
        self.assertEqual(self.do("commit", "a", (), ()), ("made", "a5", ()))


if __name__ == "__main__":
    unittest.main()
