"""What clones and the hub have in common."""

from partclones.histories.ask import answer


class Party:
    """Somebody who has a history and marks, and stores all that it knows in a vault."""

    def __init__(self, vault, book):
        """Make a party whose book is what the vault stores."""
        self._vault = vault
        # The book and what is in it are never changed, only replaced.
        self._book = book

    def kept(self):
        """Return the ascending list of the versions that the party keeps."""
        return self._book["history"].names()

    def facts(self):
        """Return the facts of its history."""
        return self._book["history"].facts()

    def ask(self, question):
        """Return the answer to a question about its history."""
        return answer(self._book["history"], question)

    @property
    def marks(self):
        """A new dict from the marks, ascending, to names of versions."""
        marks = self._book["marks"]
        return {mark: marks[mark] for mark in sorted(marks)}

    def status(self):
        """Return pairs of a word and a number that tell how much the party has."""
        return [("kept", len(self.kept())), ("marks", len(self._book["marks"]))]

    def _turn(self, book, records):
        """Store the records of a book, and then know what is in it."""
        changes = {key: None for key in self._vault.known()}
        changes.update(records)
        # The vault leaves out what it stores already, and does nothing if nothing is left.
        self._vault.commit(changes)
        self._book = book


def records_in(vault):
    """Return a dict of all records of a vault."""
    return {key: vault.read(key) for key in vault.known()}
