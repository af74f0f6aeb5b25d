"""Nets with letters on their way."""

from partclones.errors import NoLetter


class Net:
    """Letters on their way, each with a serial number, a sender and a receiver."""

    def __init__(self):
        """Make a net without letters."""
        self._last = 0
        # From serial numbers, ascending, to a sender, a receiver and a tuple of strings.
        self._letters = {}

    def send(self, sender, receiver, strings):
        """Put a letter on its way and return its serial number."""
        self._last += 1
        self._letters[self._last] = (sender, receiver, tuple(strings))
        return self._last

    def waiting(self):
        """Return the list of the serial numbers, senders and receivers of the letters on their way."""
        return [(serial, sender, receiver) for serial, (sender, receiver, _) in self._letters.items()]

    def look(self, serial):
        """Return the sender, the receiver and the strings of a letter on its way."""
        if serial not in self._letters:
            raise NoLetter(serial)
        sender, receiver, strings = self._letters[serial]
        return sender, receiver, list(strings)

    def deliver(self, serial):
        """Return what look returns; the letter is no longer on its way."""
        letter = self.look(serial)
        del self._letters[serial]
        return letter

    def double(self, serial):
        """Put a copy of a letter on its way and return its serial number."""
        sender, receiver, strings = self.look(serial)
        return self.send(sender, receiver, strings)

    def lose(self, serial):
        """Take a letter off its way."""
        self.deliver(serial)
