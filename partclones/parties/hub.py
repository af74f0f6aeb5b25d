"""The hub."""

from partclones.closed.closure import closure
from partclones.errors import BadLetter, BadParty
from partclones.histories.core import core
from partclones.histories.history import History
from partclones.histories.putting import commit_puts
from partclones.parties.books import hub_book, hub_records, new_hub_book
from partclones.parties.letters import ANSWER, REQUEST, letter_strings
from partclones.parties.packs import pack
from partclones.parties.party import Party, records_in
from partclones.parties.reading import is_party_letter, read_letter
from partclones.vault.vault import Vault


class Hub(Party):
    """The party that handles the requests of the clones."""

    @staticmethod
    def fresh(disk):
        """Return a hub without versions on a disk whose cells all hold None."""
        hub = Hub(Vault.fresh(disk), new_hub_book())
        hub._learn()
        return hub

    @staticmethod
    def opened(disk):
        """Return the hub that was made on a disk."""
        vault = Vault.opened(disk)
        return Hub(vault, hub_book(records_in(vault)))

    def take(self, strings):
        """Handle a request, and return the written form of the answer, or None if there is none."""
        letter = read_letter(strings)
        if letter[0] != REQUEST:
            raise BadLetter(0)
        clone, number = letter[1:3]
        recorded, _, told = self._known_of(clone)
        if number < recorded:
            return None
        if number > recorded:
            told = self._handled(clone, number, letter[3:])
        return list(told)

    def forget(self):
        """Forget what no recorded lot and no mark needs, and return the list of what is kept."""
        history = self._book["history"]
        clones, marks = self._book["clones"], self._book["marks"]
        needed = [name for letter in clones for name in clones[letter][1]]
        needed.extend([marks[mark] for mark in marks])
        kept = closure(history.order(), sorted(set(needed)))
        self._learn(history=History.of(core(history, kept)))
        return kept

    def record(self, letter):
        """Return the recorded number and the recorded lot of a clone."""
        if not is_party_letter(letter):
            raise BadParty(letter)
        number, lot, _ = self._known_of(letter)
        return number, lot

    def status(self):
        """Return pairs of a word and a number that tell how much the hub has."""
        told = super().status()
        return [*told, ("records", len(self._book["clones"]))]

    def _handled(self, clone, number, parts):
        """Handle a request that is new, given by what stands behind its number, and return the answer."""
        lot, made, want, moves, back = parts
        history = _with_made(self._book["history"], made)
        marks, refused = _moved_marks(history, self._book["marks"], moves)
        wanted = [(mark, marks[mark]) for mark in sorted(want) if mark in marks]
        had = [*lot, *[name for name, _, _ in made]]
        chosen = [*had, *[name for _, name in wanted], *[name for name in back if name in history]]
        now = closure(history.order(), sorted(set(chosen)))
        rows, sent, tally = _told_core(history, now, had)
        told = letter_strings((ANSWER, clone, number, rows, sent, tally, tuple(wanted), refused))
        clones = dict(self._book["clones"])
        clones[clone] = (number, tuple(now), told)
        self._learn(history=history, marks=marks, clones=clones)
        return told

    def _known_of(self, letter):
        """Return the recorded number and lot of a clone, and the written form of the answer."""
        return self._book["clones"].get(letter, (0, (), []))

    def _learn(self, **news):
        """Store what is new, and then know it."""
        book = {**self._book, **news}
        self._turn(book, hub_records(book))


def _with_made(history, made):
    """Return a copy of a history with those of the made versions that it lacks."""
    wider = history.copied()
    for name, parents, puts in made:
        if name not in wider:
            commit_puts(wider, name, list(parents), puts)
    return wider


def _moved_marks(history, marks, moves):
    """Return the marks after the moves, and the tuple of the marks whose moves are refused."""
    moved = dict(marks)
    refused = []
    for mark, name in moves:
        if mark not in moved or history.is_under(moved[mark], name):
            moved[mark] = name
        else:
            refused.append(mark)
    return moved, tuple(refused)


def _told_core(history, names, had):
    """Return the rows, the sent versions and the tally that tell the core on some versions to who had others."""
    rows, tally = core(history, names)
    lacking = [name for name in names if name not in had]
    trees = {name: history.tree(name) for name in names}
    origins = {row[0]: row[3] for row in rows}
    sent = [(name, base, puts, origins[name]) for name, base, puts in pack(trees, lacking, had)]
    return tuple([(row[0], row[1]) for row in rows]), tuple(sent), tally
