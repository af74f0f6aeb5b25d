"""Lots: closed sets as objects."""

from partclones.closed.closure import closure
from partclones.closed.gaps import checked_closed
from partclones.closed.peel import is_free
from partclones.errors import Needed


class Lot:
    """A closed set of versions of an order."""

    def __init__(self, order, names):
        """Make the lot with a list of versions as its members."""
        self._order = order
        self._members = checked_closed(order, names)

    @classmethod
    def over(cls, order, names):
        """Return the lot whose members are the closure of a list of versions."""
        return cls(order, closure(order, names))

    def __contains__(self, name):
        """Return True if the string is the name of a member, otherwise False."""
        return name in self._members

    def __iter__(self):
        """Go through the members, ascending."""
        return iter(self._members)

    def __eq__(self, other):
        """Return True if both lots have the same members, otherwise False."""
        return isinstance(other, Lot) and self._members == other._members

    def __and__(self, other):
        """Return the lot of the common members."""
        return Lot(self._order, [name for name in self._members if name in other._members])

    def __or__(self, other):
        """Return the join of both lots."""
        return _join(self._order, [*self._members, *other._members])

    def within(self, other):
        """Return True if every member is a member of the other lot, otherwise False."""
        return all([name in other for name in self._members])

    def plus(self, name):
        """Return the lot over the members and a version of the order."""
        return _join(self._order, [*self._members, name])

    def minus(self, name):
        """Return the lot without a member that is free."""
        if not is_free(self._order, self._members, name):
            raise Needed(name)
        return Lot(self._order, [member for member in self._members if member != name])


def joined(first, *others):
    """Return the lot whose members are the closure of all members of some lots."""
    return _join(first._order, [name for lot in [first, *others] for name in lot])


def _join(order, names):
    """Return the lot over versions that may occur several times."""
    return Lot(order, closure(order, sorted(set(names))))
