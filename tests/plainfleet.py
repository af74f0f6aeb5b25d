"""A fleet without disks, told by points 62 to 72 over the full history, to compare with."""

import copy

from partclones.errors import (
    BadPut, BadQuestion, BadTree, PartError, Repeated, TooLarge, Unknown,
)
from partclones.histories.ask import answer
from partclones.histories.core import core
from partclones.histories.history import History
from partclones.parties.letters import letter_strings
from partclones.trees.puts import put_tree, puts_between

WORDS = {Unknown: "unknown", Repeated: "repeated", BadPut: "put", BadTree: "tree", TooLarge: "large",
         BadQuestion: "question"}


class Refused(Exception):
    def __init__(self, word):
        super().__init__(word)
        self.word = word


class PlainClone:
    def __init__(self):
        self.kept, self.made, self.last, self.number = set(), [], 0, 0
        self.open, self.marks = None, {}


class PlainFleet:
    """What each party knows, as sets of names; all else is looked up in the full history."""

    def __init__(self, letters):
        self.clones = {letter: PlainClone() for letter in letters}
        self.hub_kept, self.hub_marks, self.records = set(), {}, {}
        self.full, self.parents = History(), {}
        self.letters, self.last = {}, 0

    def copied(self):
        full, self.full = self.full, None
        other = copy.deepcopy(self)
        self.full, other.full = full, full.copied()
        return other

    def closure(self, names):
        """The closure of some versions in the full history, straight from point 27."""
        found = set(names)
        while True:
            more = {base for x in found for y in found if x < y for base in self.full.bases(x, y)} - found
            if not more:
                return found
            found |= more

    def thin(self, who):
        return History.of(core(self.full, sorted(self.hub_kept if who == "hub" else self.clones[who].kept)))

    def picture(self, who):
        """All that can be seen of a party."""
        facts = core(self.full, sorted(self.hub_kept if who == "hub" else self.clones[who].kept))
        if who == "hub":
            return facts, dict(self.hub_marks), {
                letter: (number, tuple(sorted(lot))) for letter, (number, lot, _) in self.records.items()
            }
        clone = self.clones[who]
        made = tuple(self.entry(name) for name in clone.made)
        request = clone.open and letter_strings(self.request(who, clone.open))
        return facts, dict(clone.marks), made, clone.number, request

    def entry(self, name):
        parents = self.parents[name]
        old = self.full.tree(parents[0]) if parents else {}
        return name, tuple(parents), tuple(puts_between(old, self.full.tree(name)))

    def request(self, who, told):
        number, lot, made, want, moves, back = told
        return "request", who, number, tuple(sorted(lot)), tuple(map(self.entry, made)), want, moves, back

    def do(self, event):
        """Do an event that is no fall on this fleet, and return its answer."""
        try:
            return getattr(self, event[0])(*event[1:])
        except Refused as error:
            return "refused", error.word

    def clone(self, who):
        if who not in self.clones:
            raise Refused("who")
        return self.clones[who]

    def known(self, who, names, single=False):
        seen = []
        for name in names:
            if name not in self.clones[who].kept:
                raise Refused("unknown")
            if name in seen and not single:
                raise Refused("repeated")
            seen.append(name)

    def make(self, who, parents, tell):
        """Make a version by a call of the full history."""
        clone = self.clone(who)
        name = f"{who}{clone.last + 1}"
        try:
            told = tell(name)
        except PartError as error:
            raise Refused(WORDS[type(error)]) from None
        clone.last += 1
        clone.kept.add(name)
        clone.made.append(name)
        self.parents[name] = list(parents)
        return "made", name, tuple(told or ())

    def commit(self, who, parents, puts):
        self.clone(who)
        self.known(who, parents)

        def tell(name):
            tree = put_tree(self.full.tree(parents[0]) if parents else {}, puts)
            self.full.commit(name, list(parents), tree)

        return self.make(who, parents, tell)

    def merge(self, who, one, other):
        self.clone(who)
        self.known(who, [one, other])
        return self.make(who, [one, other], lambda name: self.full.merge(name, one, other))

    def pick(self, who, base, change, onto):
        self.clone(who)
        self.known(who, [base, change, onto], single=True)
        return self.make(who, [onto], lambda name: self.full.pick(name, base, change, onto))

    def keep(self, who, names):
        clone = self.clone(who)
        self.known(who, names)
        clone.kept = self.closure([*names, *clone.made])
        clone.open = None
        clone.marks = {mark: name for mark, name in clone.marks.items() if name in clone.kept}
        return "kept", tuple(sorted(clone.kept))

    def pull(self, who, want, moves, back):
        clone = self.clone(who)
        if len(want) > 8:
            raise Refused("many")
        self.checked(want, "mark")
        if len(moves) > 8:
            raise Refused("many")
        for at, (mark, name) in enumerate(moves):
            self.checked([mark for mark, _ in moves[:at + 1]], "mark")
            self.known(who, [name])
        if len(back) > 8:
            raise Refused("many")
        self.checked(back, "name")
        clone.number += 1
        clone.open = (clone.number, clone.kept - set(clone.made), tuple(clone.made), want, moves, back)
        return self.send(who, "hub", ("request", who, *clone.open))

    def checked(self, names, word):
        for at, name in enumerate(names):
            if not (0 < len(name) < 7 and name.isalnum() and name.islower() and name[0].isalpha()):
                raise Refused(word)
            if name in names[:at]:
                raise Refused("repeated")

    def again(self, who):
        clone = self.clone(who)
        return self.send(who, "hub", ("request", who, *clone.open)) if clone.open else ("nothing",)

    def send(self, *letter):
        self.last += 1
        self.letters[self.last] = letter
        return "sent", self.last

    def look(self, serial):
        if serial not in self.letters:
            raise Refused("serial")
        return self.letters[serial]

    def double(self, serial):
        return self.send(*self.look(serial))

    def lose(self, serial):
        self.look(serial)
        del self.letters[serial]
        return ("lost",)

    def forget(self):
        lots = [name for _, lot, _ in self.records.values() for name in lot]
        self.hub_kept = self.closure([*lots, *self.hub_marks.values()])
        return "kept", tuple(sorted(self.hub_kept))

    def ask(self, who, question):
        if who != "hub":
            self.clone(who)
        try:
            return "answer", answer(self.thin(who), question)
        except PartError as error:
            raise Refused(WORDS[type(error)]) from None

    def deliver(self, serial):
        sender, receiver, told = self.look(serial)
        del self.letters[serial]
        if receiver == "hub":
            found = self.handle(*told[1:])
            return self.send("hub", sender, found) if found else ("nothing",)
        return ("taken",) if self.take(self.clones[receiver], *told[2:]) else ("nothing",)

    def handle(self, who, number, lot, made, want, moves, back):
        recorded, _, found = self.records.get(who, (0, set(), None))
        if number <= recorded:
            return found if number == recorded else None
        self.hub_kept |= set(made)
        refused = []
        for mark, name in moves:
            if mark in self.hub_marks and not self.full.is_under(self.hub_marks[mark], name):
                refused.append(mark)
            else:
                self.hub_marks[mark] = name
        marks = {mark: self.hub_marks[mark] for mark in want if mark in self.hub_marks}
        chosen = {*lot, *made, *marks.values(), *[name for name in back if name in self.hub_kept]}
        now = self.closure(chosen)
        found = ("answer", who, number, now, marks, refused)
        self.records[who] = (number, now, found)
        return found

    def take(self, clone, number, lot, marks, refused):
        if clone.open is None or clone.open[0] != number:
            return False
        clone.made = [name for name in clone.made if name not in clone.open[2]]
        clone.kept = {*lot, *clone.made}
        clone.marks, clone.open = marks, None
        return True


def picture(party):
    """All that can be seen of a party of a real fleet."""
    if hasattr(party, "record"):
        found = {letter: party.record(letter) for letter in "abcdefgh"}
        return party.facts(), party.marks, {letter: told for letter, told in found.items() if told != (0, ())}
    return party.facts(), party.marks, party.made(), party.number, party.again()


def drawn_event(chooser, fleet, most=58, forgetful=True, falls=True):
    """An event that a fleet could do, or nearly; at most so many versions are made."""
    letters = fleet.clone_letters()
    who = chooser.one_of(letters)
    kept = fleet.clone(who).kept()
    there = fleet.full().names()
    kind = chooser.below(22)
    if kind < 8 and len(there) < most and (kept or kind < 4):
        event = drawn_make(chooser, who, kept, kind)
    elif kind < 10 and forgetful:
        event = ("keep", who, tuple(chooser.some_of(kept, 3))) if kind == 8 else ("forget",)
    elif kind < 13:
        marks = ["main", "dev", "old"]
        moves = tuple((mark, chooser.one_of(kept)) for mark in (chooser.some_of(marks, 2) if kept else []))
        event = ("pull", who, tuple(chooser.some_of(marks, 3)), moves, tuple(chooser.some_of(there, 3)))
    elif kind == 13:
        event = ("again", who)
    else:
        waiting = [serial for serial, _, _ in fleet.waiting()] or [1]
        word = "deliver" if kind < 20 else ("double" if kind == 20 else "lose")
        event = (word, chooser.one_of(waiting))
    if falls and chooser.below(4) == 0:
        party = "hub" if event[0] == "forget" else event[1]
        if event[0] == "deliver":
            party = ([receiver for serial, _, receiver in fleet.waiting() if serial == event[1]] or [who])[0]
        party = party if isinstance(party, str) and chooser.below(12) else who
        return ("fall", party, chooser.below(14), chooser.below(2**12), event)
    return event


def drawn_make(chooser, who, kept, kind):
    """An event that makes a version, or is refused."""
    one, other, third = [chooser.one_of(kept or ["q"]) for _ in range(3)]
    if kind < 5:
        puts = []
        for path in chooser.some_of(["f", "g", "h/i"], 2):
            lines = tuple(chooser.one_of("abcdefgh") for _ in range(chooser.below(6)))
            puts.append((path, lines if chooser.below(6) else None))
        return ("commit", who, tuple(chooser.some_of(kept[-5:], 2)), tuple(puts))
    if kind < 7:
        return ("merge", who, one, other)
    return ("pick", who, one, other, third)


class Pair:
    """A fleet and the plain one, which do the same events."""

    def __init__(self, test, fleet):
        self.test, self.fleet = test, fleet
        self.plain = PlainFleet(fleet.clone_letters())

    def do(self, event):
        """Do an event on both, check that all is alike, and return the answer."""
        told = self.fleet.do(event)
        if event[0] == "fall":
            self.fall(event, told)
        else:
            self.test.assertEqual(told, self.plain.do(event), event)
        self.check(event)
        return told

    def fall(self, event, told):
        _, who, _, _, inner = event
        if who not in [*self.plain.clones, "hub"]:
            self.test.assertEqual(told, ("refused", "who"))
            return
        self.test.assertEqual(told[0], "fell")
        expected = self.in_a_fall(who, inner)
        if expected is not None:
            self.test.assertEqual(told[1], expected)
        elif told[1] is not None:
            self.test.assertEqual(told[1], self.plain.do(inner), event)
        else:
            self.cut(who, inner)

    def in_a_fall(self, who, event):
        """The refusal of an event that is none of a falling party, or None."""
        if event[0] == "deliver" and event[1] not in self.plain.letters:
            return "refused", "serial"
        named = "hub" if event[0] == "forget" else event[1]
        if event[0] == "deliver":
            named = self.plain.letters[event[1]][1]
        return None if named == who else ("refused", "who")

    def cut(self, who, event):
        """A cut event: the party is as before or as after, no letter is sent, and a delivered one is gone."""
        after = self.plain.copied()
        after.do(event)
        if event[0] == "deliver":
            del self.plain.letters[event[1]]
        party = self.fleet.hub() if who == "hub" else self.fleet.clone(who)
        if picture(party) != self.plain.picture(who):
            after.letters, after.last = self.plain.letters, self.plain.last
            self.plain = after

    def check(self, event=None):
        """Check that all that can be seen of both fleets is alike."""
        test, fleet, plain = self.test, self.fleet, self.plain
        test.assertEqual(fleet.full().facts(), plain.full.facts(), event)
        letters = [(serial, sender, receiver) for serial, (sender, receiver, _) in plain.letters.items()]
        test.assertEqual(fleet.waiting(), letters, event)
        for who in fleet.clone_letters():
            test.assertEqual(picture(fleet.clone(who)), plain.picture(who), event)
        test.assertEqual(picture(fleet.hub()), plain.picture("hub"), event)
