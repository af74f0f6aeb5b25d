"""Gaps, and whether a list of versions is closed."""

from partclones.errors import NotClosed
from partclones.webs.bases import merge_bases


def gaps(order, names):
    """Yield the gaps of a list of versions in their order."""
    members = sorted(order.checked(names))
    for x, y in pairs_of(members):
        for base in _missing(order, members, x, y):
            yield x, y, base


def first_gap(order, names):
    """Return the first gap of a list of versions, or None if there is none."""
    # This does not go through gaps, because the operators of lots run it, and no generator runs in them.
    members = sorted(order.checked(names))
    for x, y in pairs_of(members):
        missing = _missing(order, members, x, y)
        if missing:
            return x, y, missing[0]
    return None


def is_closed(order, names):
    """Return True if the list of versions is closed, otherwise False."""
    return first_gap(order, names) is None


def checked_closed(order, names):
    """Return the ascending list of the versions; raise NotClosed with the first gap if there is one."""
    gap = first_gap(order, names)
    if gap is not None:
        first, second, missing = gap
        raise NotClosed(first, second, missing)
    return sorted(names)


def pairs_of(members):
    """Return the ascending list of the pairs of two different ones of members that ascend."""
    return [(x, y) for x in members for y in members if x < y]


def _missing(order, members, x, y):
    """Return the ascending list of the merge bases of two members that are no members."""
    return [base for base in merge_bases(order, x, y) if base not in members]
