"""Strings that are read one after the other."""

from partclones.errors import BadLetter
from partclones.signs import number_within


class Tape:
    """A list of strings, and how far it has been read."""

    def __init__(self, strings):
        """Make a tape of which nothing has been read."""
        self._strings = list(strings)
        self._at = 0

    def taken(self):
        """Return the next string; raise BadLetter if there is none."""
        if self._at == len(self._strings):
            raise BadLetter(self._at)
        self._at += 1
        return self._strings[self._at - 1]

    def tested(self, test):
        """Return the next string; raise BadLetter if it does not pass the test."""
        string = self.taken()
        if not test(string):
            raise BadLetter(self._at - 1)
        return string

    def bounded(self, low, high):
        """Return the next string as a number; raise BadLetter unless it is one from low to high."""
        number = number_within(self.taken(), low, high)
        if number is None:
            raise BadLetter(self._at - 1)
        return number

    def several(self, reader, most):
        """Return the tuple of what a function reads from this tape, as often as the next string tells."""
        return tuple([reader(self) for _ in range(self.bounded(0, most))])

    def finish(self):
        """Raise BadLetter if there is a next string."""
        if self._at < len(self._strings):
            raise BadLetter(self._at)
