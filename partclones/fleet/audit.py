"""The audit of a fleet, and its rest."""

from partclones.closed.closure import closure
from partclones.closed.gaps import is_closed
from partclones.fleet.fleet import HUB
from partclones.histories.core import core
from partclones.parties.reading import PARTY_LETTERS


def complaints(fleet):
    """Return the list of the complaints of the audit, pairs of a word and a party."""
    full = fleet.full()
    hub = fleet.hub()
    found = []
    for letter in fleet.clone_letters():
        clone = fleet.clone(letter)
        found.extend([(word, letter) for word in _faults(full, clone)])
        if not _keeps_what_it_may(hub, letter, clone.kept()):
            found.append(("lot", letter))
    found.extend([(word, HUB) for word in _faults(full, hub)])
    if not _keeps_what_it_must(full, hub):
        found.append(("hub", HUB))
    return found


def settle(fleet):
    """Bring a fleet to rest."""
    for serial, _, _ in fleet.waiting():
        fleet.do(("lose", serial))
    for letter in fleet.clone_letters():
        _, asked = fleet.do(("pull", letter, (), (), ()))
        _, told = fleet.do(("deliver", asked))
        fleet.do(("deliver", told))
    fleet.do(("forget",))


def _faults(full, party):
    """Return the words for what is wrong with the history of a party."""
    kept = party.kept()
    known = _known(full, kept)
    words = []
    if known != kept or party.facts() != core(full, kept):
        words.append("facts")
    if not is_closed(full.order(), known):
        words.append("closed")
    return words


def _known(full, names):
    """Return the list of those of the names that are versions of the full history."""
    return [name for name in names if name in full]


def _keeps_what_it_may(hub, letter, kept):
    """Return True if each version that a clone keeps is in its recorded lot or its own and unknown to the hub."""
    _, lot = hub.record(letter)
    there = hub.kept()
    # The names of the versions that a clone makes begin with its letter.
    return all([name in lot or (name[0] == letter and name not in there) for name in kept])


def _keeps_what_it_must(full, hub):
    """Return True if the hub keeps the closure of all recorded lots and of the versions of its marks."""
    marks = hub.marks
    needed = [name for letter in PARTY_LETTERS for name in hub.record(letter)[1]]
    needed.extend([marks[mark] for mark in marks])
    there = hub.kept()
    closed = closure(full.order(), sorted(set(_known(full, needed))))
    return all([name in there for name in [*needed, *closed]])
