"""Points 1, 39, 62 and 68: what holds over the whole program."""

import unittest

from partclones.closed.gaps import is_closed
from partclones.fleet.audit import complaints, settle
from partclones.fleet.fleet import Fleet
from partclones.histories.ask import answer
from partclones.histories.core import core
from partclones.parties.reading import read_letter
from plainfleet import Pair, drawn_event, picture
from support import Chooser


class EventsTest(unittest.TestCase):
    def test_long_rows_of_events_as_in_a_fleet_without_disks(self):
        words = set()
        for seed in range(10):
            chooser = Chooser(seed)
            pair = Pair(self, Fleet(1 + chooser.below(4)))
            for _ in range(160):
                told = pair.do(drawn_event(chooser, pair.fleet))
                told = (told[1] or ("cut",)) if told[0] == "fell" else told
                words.add(told[1] if told[0] == "refused" else told[0])
        self.assertLessEqual({"made", "kept", "sent", "taken", "nothing", "lost", "cut", "serial", "who"}, words)

    def test_eight_clones(self):
        chooser = Chooser(77)
        pair = Pair(self, Fleet(8))
        for _ in range(250):
            pair.do(drawn_event(chooser, pair.fleet))
        self.assertEqual(complaints(pair.fleet), [])

    def test_the_same_events_give_the_same_fleet(self):
        seen = []
        for _ in range(2):
            chooser, fleet = Chooser(5), Fleet(3)
            answers = [fleet.do(drawn_event(chooser, fleet)) for _ in range(150)]
            parties = [fleet.clone(letter) for letter in "abc"]
            seen.append((answers, [picture(party) for party in [*parties, fleet.hub()]], fleet.waiting()))
        self.assertEqual(seen[0], seen[1])


class KeepingTest(unittest.TestCase):
    """The same events with and without keeps and forgets, falls and lost letters."""

    def check_answers(self, fleet, full, who, party):
        """Whatever a party is asked about what it keeps has the answer of the full history."""
        names = party.kept()
        self.assertEqual(party.facts(), core(full, names))
        self.assertTrue(is_closed(full.order(), names))
        for x in names[:12]:
            for question in (("show", x), ("origins", x), ("reach", x)):
                self.assertEqual(fleet.do(("ask", who, question)), ("answer", answer(full, question)))
            for y in names[-12:]:
                for word in ("under", "bases", "base", "changes", "lead"):
                    question = (word, x, y)
                    self.assertEqual(fleet.do(("ask", who, question)), ("answer", answer(full, question)))

    def test_answers_are_those_of_the_full_history(self):
        for seed in range(4):
            for forgetful in (True, False):
                chooser, fleet = Chooser(seed + 30), Fleet(2 + seed % 2)
                for _ in range(130):
                    fleet.do(drawn_event(chooser, fleet, most=40, forgetful=forgetful))
                full = fleet.full()
                for letter in fleet.clone_letters():
                    self.check_answers(fleet, full, letter, fleet.clone(letter))
                self.check_answers(fleet, full, "hub", fleet.hub())
                self.assertEqual(complaints(fleet), [])

    def test_with_and_without_forgetting(self):
        for seed in range(4):
            chooser = Chooser(seed + 60)
            poor, rich = Fleet(2), Fleet(2)
            for _ in range(150):
                event = drawn_event(chooser, poor, most=40, falls=False)
                told = poor.do(event)
                if told[0] == "made":
                    self.follow(rich, event, told)
            self.assertEqual(rich.full().facts(), poor.full().facts())
            for letter in "ab":
                names = poor.clone(letter).kept()
                self.assertLessEqual({*names}, {*rich.clone(letter).kept()})
                for x in names:
                    for y in names:
                        for question in (("bases", x, y), ("base", x, y), ("lead", x, y), ("reach", x)):
                            self.assertEqual(
                                poor.do(("ask", letter, question)), rich.do(("ask", letter, question))
                            )

    def follow(self, rich, event, told):
        """Do the same in a fleet that forgets nothing, where each clone gets all versions at once."""
        self.assertEqual(rich.do(event), told)
        for letter in (event[1], "ab".replace(event[1], "")):
            serial = rich.do(("pull", letter, (), (), (told[1],)))[1]
            self.assertEqual(rich.do(("deliver", rich.do(("deliver", serial))[1])), ("taken",))

    def test_settled_fleets_share_all_that_they_ask_for(self):
        chooser, fleet = Chooser(9), Fleet(3)
        for _ in range(120):
            fleet.do(drawn_event(chooser, fleet, most=30, forgetful=False))
        settle(fleet)
        names = fleet.full().names()
        for letter in fleet.clone_letters():
            for back in range(0, len(names), 8):
                serial = fleet.do(("pull", letter, (), (), tuple(names[back:back + 8])))[1]
                self.assertEqual(fleet.do(("deliver", fleet.do(("deliver", serial))[1])), ("taken",))
            self.assertEqual(fleet.clone(letter).facts(), fleet.full().facts())
        self.assertEqual(fleet.hub().facts(), fleet.full().facts())


class LetterTest(unittest.TestCase):
    def test_letters_can_be_read(self):
        chooser, fleet = Chooser(2), Fleet(2)
        kinds = set()
        for _ in range(150):
            fleet.do(drawn_event(chooser, fleet))
            for letter in "ab":
                strings = fleet.clone(letter).again()
                if strings is not None:
                    told = read_letter(strings)
                    kinds.add(told[0])
                    self.assertEqual(told[:3], ("request", letter, fleet.clone(letter).number))
                    if fleet.hub().record(letter)[0] == told[2]:
                        # Handled already, so this only gives the answer once more.
                        told = read_letter(fleet.hub().take(strings))
                        kinds.add(told[0])
                        self.assertEqual(told[:3], ("answer", letter, fleet.clone(letter).number))
        self.assertEqual(kinds, {"request", "answer"})

    def test_the_largest_fleet(self):
        # Sixty versions with sixty long lines each, and a thousand marks: nothing raises NoRoom.
        fleet, marks = Fleet(2), 0
        for number in range(60):
            who = "ab"[number // 8 % 2]
            puts = tuple((f"{path}{number % 7}/dddddd/ffffff", self.lines(number, path)) for path in "hijklmno")
            parents = tuple(fleet.clone(who).kept()[-1:]) if number % 7 else ()
            cuts = tuple((path, None) for path, _ in fleet.do(("ask", who, ("show", parents[0])))[1]) if parents else ()
            kept = [put for put in cuts if put[0] not in [path for path, _ in puts]]
            self.assertEqual(fleet.do(("commit", who, parents, (*kept, *puts)))[0], "made")
            for _ in range(2):
                names = fleet.clone(who).kept()
                moves = tuple((f"m{marks + at}", names[at % len(names)]) for at in range(8))
                marks += 8
                serial = fleet.do(("pull", who, (), moves, ()))[1]
                told = fleet.do(("deliver", serial))
                self.assertEqual((told[0], fleet.do(("deliver", told[1]))), ("sent", ("taken",)))
        names = fleet.full().names()
        for who in "ab":
            for back in range(0, 60, 8):
                serial = fleet.do(("pull", who, (), (), tuple(names[back:back + 8])))[1]
                self.assertEqual(fleet.do(("deliver", fleet.do(("deliver", serial))[1])), ("taken",))
            self.assertEqual(fleet.clone(who).kept(), names)
        self.assertEqual((len(fleet.hub().marks), complaints(fleet)), (960, []))

    def lines(self, number, path):
        return tuple(f"{number}{path}{line} ".ljust(20, "x") for line in range(7))


if __name__ == "__main__":
    unittest.main()
