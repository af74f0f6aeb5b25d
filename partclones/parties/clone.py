"""Clones."""

from partclones.closed.closure import closure
from partclones.errors import BadLetter, BadMark, BadName, BadParty, Repeated, TooMany, Unknown
from partclones.histories.core import core
from partclones.histories.facts import fact_row
from partclones.histories.history import History
from partclones.histories.putting import commit_puts
from partclones.parties.books import clone_book, clone_records, new_clone_book
from partclones.parties.letters import ANSWER, REQUEST, letter_strings
from partclones.parties.packs import unpack
from partclones.parties.party import Party, records_in
from partclones.parties.reading import FEW, is_party_letter, read_letter
from partclones.trees.puts import puts_between
from partclones.trees.tree import tree_of
from partclones.vault.vault import Vault
from partclones.webs.names import is_name


class Clone(Party):
    """A party that makes versions, and sends them to the hub with its requests."""

    @staticmethod
    def fresh(letter, disk):
        """Return a clone without versions on a disk whose cells all hold None."""
        if not is_party_letter(letter):
            raise BadParty(letter)
        clone = Clone(Vault.fresh(disk), new_clone_book(letter))
        clone._learn()
        return clone

    @staticmethod
    def opened(disk):
        """Return the clone that was made on a disk."""
        vault = Vault.opened(disk)
        return Clone(vault, clone_book(records_in(vault)))

    @property
    def letter(self):
        """The letter of the clone."""
        return self._book["letter"]

    @property
    def number(self):
        """The number of the newest request."""
        return self._book["number"]

    def commit(self, parents, tree):
        """Make a version with a list of parents and a tree, and return its name."""
        history, name = self._begun()
        history.commit(name, parents, tree)
        return self._make(history, name, parents)

    def commit_with(self, parents, puts):
        """Make a version with the tree of its first parent and puts put into it, and return its name."""
        history, name = self._begun()
        commit_puts(history, name, parents, puts)
        return self._make(history, name, parents)

    def merge(self, one, other):
        """Make a version that merges two versions, and return its name and the tuple of the clashes."""
        history, name = self._begun()
        clashes = history.merge(name, one, other)
        return self._make(history, name, [one, other]), tuple(clashes)

    def pick(self, base, change, onto):
        """Make a version that picks a change, and return its name and the tuple of the clashes."""
        history, name = self._begun()
        clashes = history.pick(name, base, change, onto)
        return self._make(history, name, [onto]), tuple(clashes)

    def keep(self, names):
        """Forget what is outside of the closure of some versions and the made ones, and return what is kept."""
        history = self._book["history"]
        order = history.order()
        kept = closure(order, sorted(set([*order.checked(names), *self._made_names()])))
        marks = self.marks
        left = {mark: marks[mark] for mark in marks if marks[mark] in kept}
        self._learn(history=History.of(core(history, kept)), marks=left, request=None)
        return kept

    def pull(self, want, moves, *back):
        """Make a request and return its written form."""
        _check_want(want)
        _check_moves(moves, self._book["history"])
        _check_back(back)
        made = self._made_names()
        lot = tuple([name for name in self.kept() if name not in made])
        number = self.number + 1
        request = (REQUEST, self.letter, number, lot, self.made(), tuple(want), tuple(moves), back)
        strings = letter_strings(request)
        self._learn(number=number, request=strings)
        return list(strings)

    def again(self):
        """Return the written form of the open request, or None."""
        strings = self._book["request"]
        return None if strings is None else list(strings)

    def take(self, strings):
        """Take an answer, and return True if the open request was answered, otherwise False."""
        letter = read_letter(strings)
        if letter[0] != ANSWER:
            raise BadLetter(0)
        if self._book["request"] is None or letter[1:3] != (self.letter, self.number):
            return False
        _, _, _, rows, sent, tally, marks, _ = letter
        known = self._book["history"]
        history = _told_history(known, rows, sent, tally)
        asked = [name for name, _, _ in read_letter(self._book["request"])[4]]
        later = tuple([entry for entry in self.made() if entry[0] not in asked])
        for name, parents, _ in later:
            history.commit(name, list(parents), known.tree(name))
        self._learn(history=history, marks=dict(marks), made=later, request=None)
        return True

    def made(self):
        """Return the made versions, each with its parents and puts, in the order in which they were made."""
        return self._book["made"]

    def status(self):
        """Return pairs of a word and a number that tell how much the clone has."""
        told = super().status()
        waits = 0 if self._book["request"] is None else 1
        return [*told, ("made", len(self.made())), ("open", waits)]

    def _made_names(self):
        """Return the list of the names of the made versions."""
        return [name for name, _, _ in self.made()]

    def _begun(self):
        """Return a copy of the history and the name of the version that is made next."""
        number = self._book["last"] + 1
        return self._book["history"].copied(), f"{self.letter}{number}"

    def _make(self, history, name, parents):
        """Store a history to which a version of its own was added, and return the name of the version."""
        old = history.tree(parents[0]) if parents else {}
        puts = tuple(puts_between(old, history.tree(name)))
        made = (*self.made(), (name, tuple(parents), puts))
        self._learn(history=history, made=made, last=self._book["last"] + 1)
        return name

    def _learn(self, **news):
        """Store what is new, and then know it."""
        book = {**self._book, **news}
        self._turn(book, clone_records(book))


def _told_history(known, rows, sent, tally):
    """Return the history that an answer tells to somebody with a known history."""
    trees = unpack([entry[:3] for entry in sent], {name: known.tree(name) for name in known.names()})
    origins = {entry[0]: tree_of(entry[3]) for entry in sent}
    facts = []
    for name, nearest in rows:
        if name in origins:
            facts.append(fact_row(name, nearest, trees[name], origins[name]))
        else:
            facts.append(fact_row(name, nearest, known.tree(name), known.origins(name)))
    return History.of((tuple(facts), tally))


def _check_few(items):
    """Raise TooMany if a request cannot contain so many items."""
    if len(items) > FEW:
        raise TooMany()


def _check_want(want):
    """Raise TooMany, BadMark or Repeated unless a request can want these marks."""
    _check_few(want)
    for place, mark in enumerate(want):
        if not is_name(mark):
            raise BadMark(mark)
        if mark in want[:place]:
            raise Repeated(mark)


def _check_moves(moves, history):
    """Raise TooMany, BadMark, Repeated or Unknown unless a request can move these marks to versions of a history."""
    _check_few(moves)
    for place, (mark, name) in enumerate(moves):
        if not is_name(mark):
            raise BadMark(mark)
        if mark in [earlier for earlier, _ in moves[:place]]:
            raise Repeated(mark)
        if name not in history:
            raise Unknown(name)


def _check_back(back):
    """Raise TooMany, BadName or Repeated unless a request can ask for these versions."""
    _check_few(back)
    for place, name in enumerate(back):
        if not is_name(name):
            raise BadName(name)
        if name in back[:place]:
            raise Repeated(name)
