"""Fleets: clones, a hub, the net between them, and all versions that were ever made."""

from partclones.errors import BadParty, BadSize, PowerCut
from partclones.fleet.net import Net
from partclones.histories.history import History
from partclones.histories.putting import commit_puts
from partclones.parties.clone import Clone
from partclones.parties.hub import Hub
from partclones.parties.reading import PARTY_LETTERS
from partclones.scripts.refusals import outcome
from partclones.vault.disk import Disk, check_fuse, check_mask

CELLS = 4000
HUB = "hub"


class Fleet:
    """Clones and a hub that do events."""

    def __init__(self, clones=2):
        """Make a fleet with a number of clones."""
        if clones < 1 or clones > len(PARTY_LETTERS):
            raise BadSize(clones)
        self._disks = {who: Disk(CELLS) for who in [*PARTY_LETTERS[:clones], HUB]}
        self._clones = {who: Clone.fresh(who, self._disks[who]) for who in PARTY_LETTERS[:clones]}
        self._hub = Hub.fresh(self._disks[HUB])
        self._net = Net()
        self._full = History()

    def do(self, event):
        """Do an event and return its answer."""
        action = _fall if event[0] == "fall" else _done
        told, word = outcome(action, self, event)
        self._lead_on()
        return ("refused", word) if told is None else told

    def clone_letters(self):
        """Return the list of the letters of the clones, ascending."""
        return sorted(self._clones)

    def clone(self, letter):
        """Return the clone with a letter."""
        if letter not in self._clones:
            raise BadParty(letter)
        return self._clones[letter]

    def hub(self):
        """Return the hub."""
        return self._hub

    def waiting(self):
        """Return the list of the serial numbers, senders and receivers of the letters on their way."""
        return self._net.waiting()

    def full(self):
        """Return the full history, a new one."""
        return self._full.copied()

    def _party(self, who):
        """Return the clone or the hub that is called so."""
        return self._hub if who == HUB else self.clone(who)

    def _reopen(self, who):
        """Open a party again from its disk."""
        if who == HUB:
            self._hub = Hub.opened(self._disks[who])
        else:
            self._clones[who] = Clone.opened(self._disks[who])

    def _lead_on(self):
        """Commit what the clones have made to the full history."""
        for letter in self._clones:
            for name, parents, puts in self._clones[letter].made():
                if name not in self._full:
                    commit_puts(self._full, name, list(parents), puts)


def _done(fleet, event):
    """Do an event that is no fall and return its answer."""
    word, *parts = event
    action = ACTIONS[word]
    return action(fleet, *parts)


def _fall(fleet, event):
    """Do an event of a party whose disk has a fuse, let the disk fall, and open the party again."""
    _, who, fuse, mask, inner = event
    if who not in fleet._disks:
        raise BadParty(who)
    check_fuse(fuse)
    check_mask(mask)
    disk = fleet._disks[who]
    disk.fuse = fuse
    told = _cut_or_done(fleet, who, inner)
    disk.fall(mask)
    fleet._reopen(who)
    return "fell", told


def _cut_or_done(fleet, who, event):
    """Do an event of a falling party and return its answer, or None if it was cut."""
    try:
        told, word = outcome(_done_by, fleet, who, event)
    except PowerCut:
        return None
    return ("refused", word) if told is None else told


def _done_by(fleet, who, event):
    """Do an event of a party and return its answer; raise BadParty if it is not one of this party."""
    if event[0] == "deliver":
        _, party, _ = fleet._net.look(event[1])
    elif event[0] == "forget":
        party = HUB
    else:
        # What is doubled or lost has a number here, which is no party.
        party = event[1]
    if party != who:
        raise BadParty(who)
    return _done(fleet, event)


def _commit(fleet, who, parents, puts):
    """Let a clone commit."""
    return "made", fleet.clone(who).commit_with(list(parents), puts), ()


def _merge(fleet, who, one, other):
    """Let a clone merge."""
    name, clashes = fleet.clone(who).merge(one, other)
    return "made", name, clashes


def _pick(fleet, who, base, change, onto):
    """Let a clone pick."""
    name, clashes = fleet.clone(who).pick(base, change, onto)
    return "made", name, clashes


def _keep(fleet, who, names):
    """Let a clone forget."""
    return "kept", tuple(fleet.clone(who).keep(list(names)))


def _forget(fleet):
    """Let the hub forget."""
    return "kept", tuple(fleet.hub().forget())


def _pull(fleet, who, want, moves, back):
    """Let a clone pull, and send its request."""
    wanted = list(want)
    moved = list(moves)
    strings = fleet.clone(who).pull(wanted, moved, *back)
    return "sent", fleet._net.send(who, HUB, strings)


def _again(fleet, who):
    """Send the open request of a clone once more."""
    strings = fleet.clone(who).again()
    if strings is None:
        return ("nothing",)
    return "sent", fleet._net.send(who, HUB, strings)


def _deliver(fleet, serial):
    """Deliver a letter."""
    sender, receiver, strings = fleet._net.deliver(serial)
    if receiver != HUB:
        return ("taken",) if fleet.clone(receiver).take(strings) else ("nothing",)
    told = fleet.hub().take(strings)
    if told is None:
        return ("nothing",)
    return "sent", fleet._net.send(HUB, sender, told)


def _double(fleet, serial):
    """Double a letter."""
    return "sent", fleet._net.double(serial)


def _lose(fleet, serial):
    """Lose a letter."""
    fleet._net.lose(serial)
    return ("lost",)


def _ask(fleet, who, question):
    """Ask a party a question."""
    return "answer", fleet._party(who).ask(question)


ACTIONS = {
    "commit": _commit,
    "merge": _merge,
    "pick": _pick,
    "keep": _keep,
    "forget": _forget,
    "pull": _pull,
    "again": _again,
    "deliver": _deliver,
    "double": _double,
    "lose": _lose,
    "ask": _ask,
}
