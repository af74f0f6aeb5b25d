"""Point 73: the audit of a fleet, and its rest."""

import unittest

from partclones.closed.closure import closure
from partclones.fleet.audit import complaints, settle
from partclones.fleet.fleet import Fleet
from partclones.histories.core import core
from partclones.histories.history import History
from plainfleet import Pair, drawn_event, picture
from support import Chooser


class Party:
    """A party made by hand, with only what the interface lists."""

    def __init__(self, full, names, marks=None, records=None):
        self.told = core(full, names)
        self.marks = marks or {}
        self.records = records or {}

    def kept(self):
        return [row[0] for row in self.told[0]]

    def facts(self):
        return self.told

    def record(self, letter):
        return self.records.get(letter, (0, ()))


class HandMade:
    """A fleet made by hand: two clones, a hub and a full history."""

    def __init__(self):
        self.history = History()
        for name, parents in (("a1", []), ("a2", ["a1"]), ("b1", ["a1"]), ("a3", ["a2", "b1"]), ("b2", ["b1", "a2"])):
            self.history.commit(name, parents, {"f": [name]})
        self.parties = {
            "a": Party(self.history, ["a1", "a2", "a3"]),
            "b": Party(self.history, ["b1"]),
        }
        self.centre = Party(self.history, ["a1", "a2", "b1"], {"main": "b1"}, {
            "a": (4, ("a1", "a2")), "b": (1, ("a2", "b1", "a1")),
        })

    def clone_letters(self):
        return sorted(self.parties)

    def clone(self, letter):
        return self.parties[letter]

    def hub(self):
        return self.centre

    def full(self):
        return self.history.copied()


class ComplaintsTest(unittest.TestCase):
    def setUp(self):
        self.fleet = HandMade()
        self.full = self.fleet.history

    def check(self, *told):
        self.assertEqual(complaints(self.fleet), list(told))

    def test_none(self):
        self.check()
        self.assertEqual(complaints(Fleet()), [])

    def test_facts(self):
        rows, tally = self.fleet.parties["a"].told
        for facts in (
            (rows, ()) if tally else (rows, ((("a1",), 1),)),
            ((*rows[:2], (*rows[2][:2], (("f", ("x",)),), rows[2][3])), tally),
            ((*rows[:2], (*rows[2][:3], (("f", ("q",)),))), tally),
            ((rows[0], (rows[1][0], (), *rows[1][2:]), rows[2]), tally),
        ):
            self.fleet.parties["a"].told = facts
            self.check(("facts", "a"))
        self.fleet = HandMade()
        rows, tally = self.fleet.centre.told
        self.fleet.centre.told = rows, ((("a2",), 1),)
        self.check(("facts", "hub"))

    def test_closed(self):
        self.fleet.parties["b"] = Party(self.full, ["a2", "b1"])
        self.check(("closed", "b"))
        self.fleet.parties["a"] = Party(self.full, ["a3", "a2"])
        self.fleet.centre = Party(self.full, ["a2", "b1"], {}, {"a": (4, ("a2",)), "b": (1, ("a2",))})
        self.fleet.parties["b"] = Party(self.full, ["a2"])
        self.check(("closed", "hub"))

    def test_lot(self):
        # A version of another clone that is not recorded; one of its own that the hub has; and both.
        self.fleet.parties["b"] = Party(self.full, ["b1", "a3"])
        self.check(("lot", "b"))
        self.fleet.parties["b"] = Party(self.full, ["b1", "b2"])
        self.check()
        self.fleet.centre = Party(self.full, ["a1", "a2", "b1", "b2"], {}, self.fleet.centre.records)
        self.check(("lot", "b"))
        self.fleet.centre.records["b"] = (2, ("b1", "b2"))
        self.check()
        # Neither in its recorded lot, although the hub and the other clone have it.
        self.fleet.centre.records["a"] = (4, ("a1",))
        self.check(("lot", "a"))
        del self.fleet.centre.records["a"]
        self.check(("lot", "a"))

    def test_hub(self):
        for names in (["a1", "a2"], ["a1", "b1"], ["a2", "b1", "a1"]):
            self.fleet.centre = Party(self.full, names, {"main": "b1"}, {"a": (4, ("a1", "a2"))})
            self.fleet.parties["b"] = Party(self.full, [])
            self.fleet.parties["a"] = Party(self.full, ["a1", "a2"])
            self.check(*[("hub", "hub")] * (len(names) < 3))
        # The closure of all of them together counts: a lot and a mark need what lies between them.
        self.fleet.centre = Party(self.full, ["a2", "b1"], {"main": "b1"}, {"a": (4, ("a2",))})
        self.fleet.parties["a"] = Party(self.full, ["a2", "a3"])
        self.check(("closed", "hub"), ("hub", "hub"))
        # Recorded lots of clones that are not in the fleet count, too.
        self.fleet.centre = Party(self.full, ["a2"], {}, {"a": (4, ("a2",)), "h": (1, ("b1",))})
        self.check(("hub", "hub"))

    def test_several_in_their_order(self):
        self.fleet.centre = Party(self.full, ["a2", "b1"], {"main": "b2"}, {})
        self.fleet.centre.told = (self.fleet.centre.told[0], ())
        for letter in "ab":
            self.fleet.parties[letter] = Party(self.full, ["a3", "b2"])
            self.fleet.parties[letter].told = (self.fleet.parties[letter].told[0], ((("a3",), 1),))
        self.check(
            *[("facts", "a"), ("closed", "a"), ("lot", "a"), ("facts", "b"), ("closed", "b"), ("lot", "b")],
            *[("facts", "hub"), ("closed", "hub"), ("hub", "hub")],
        )

    def test_a_real_fleet_made_wrong(self):
        fleet = Fleet()
        fleet.do(("commit", "a", (), (("f", ("x",)),)))
        fleet.do(("pull", "a", (), (), ()))
        fleet.do(("deliver", 1))
        self.assertEqual(complaints(fleet), [])
        # A version that is made without an event is none of the full history.
        fleet.clone("b").commit([], {})
        self.assertEqual(complaints(fleet), [("facts", "b")])

    def test_long_rows_of_events(self):
        for seed in range(6):
            chooser, fleet = Chooser(seed), Fleet(1 + seed % 4)
            for _ in range(120):
                fleet.do(drawn_event(chooser, fleet, most=40))
                self.assertEqual(complaints(fleet), [])

    def test_nothing_is_changed(self):
        chooser, fleet = Chooser(3), Fleet(3)
        for _ in range(60):
            fleet.do(drawn_event(chooser, fleet))
        before = [picture(fleet.clone(letter)) for letter in "abc"], picture(fleet.hub()), fleet.waiting()
        complaints(fleet).append("x")
        self.assertEqual(complaints(fleet), [])
        after = [picture(fleet.clone(letter)) for letter in "abc"], picture(fleet.hub()), fleet.waiting()
        self.assertEqual(after, before)


class SettleTest(unittest.TestCase):
    def test_serial_numbers(self):
        fleet = Fleet(3)
        self.assertIsNone(settle(fleet))
        self.assertEqual(fleet.do(("pull", "a", (), (), ())), ("sent", 7))
        fleet.do(("double", 7))
        settle(fleet)
        self.assertEqual(fleet.waiting(), [])
        self.assertEqual(fleet.do(("pull", "c", (), (), ())), ("sent", 15))

    def test_the_same_by_events(self):
        for seed in range(4):
            chooser, fleet = Chooser(seed + 20), Fleet(1 + seed)
            pair = Pair(self, fleet)
            for _ in range(100):
                pair.do(drawn_event(chooser, fleet, most=40))
            settle(fleet)
            plain = pair.plain
            for serial in list(plain.letters):
                plain.do(("lose", serial))
            for letter in fleet.clone_letters():
                serial = plain.do(("pull", letter, (), (), ()))[1]
                self.assertEqual(plain.do(("deliver", plain.do(("deliver", serial))[1])), ("taken",))
            plain.do(("forget",))
            pair.check()

    def test_rest(self):
        for seed in range(6):
            chooser, fleet = Chooser(seed + 40), Fleet(1 + seed % 3)
            for _ in range(100):
                fleet.do(drawn_event(chooser, fleet, most=40))
            letters = fleet.clone_letters()
            kept = {letter: fleet.clone(letter).kept() for letter in letters}
            facts = {letter: fleet.clone(letter).facts() for letter in letters}
            settle(fleet)
            self.assertEqual((fleet.waiting(), complaints(fleet)), ([], []))
            for letter in letters:
                clone = fleet.clone(letter)
                self.assertEqual((clone.kept(), clone.facts()), (kept[letter], facts[letter]))
                self.assertEqual((clone.marks, clone.again(), clone.made()), ({}, None, ()))
                self.assertEqual(fleet.hub().record(letter)[1], tuple(kept[letter]))
            needed = {*[name for letter in letters for name in kept[letter]], *fleet.hub().marks.values()}
            self.assertEqual(fleet.hub().kept(), closure(fleet.full().order(), sorted(needed)))
            # At rest, settling changes nothing but numbers.
            before = fleet.hub().facts(), fleet.hub().marks
            settle(fleet)
            self.assertEqual((fleet.hub().facts(), fleet.hub().marks), before)


if __name__ == "__main__":
    unittest.main()
