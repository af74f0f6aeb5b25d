"""Rounds and closures."""

from partclones.closed.gaps import pairs_of
from partclones.webs.bases import merge_bases


def rounds(order, names):
    """Yield the rounds of a list of versions one after the other, each as an ascending list."""
    members = sorted(order.checked(names))
    # A copy is yielded, because the caller may change it and the members are still in use.
    yield list(members)
    wider = _with_bases(order, members)
    while len(wider) > len(members):
        members = wider
        yield list(members)
        wider = _with_bases(order, members)


def closure(order, names):
    """Return the closure of a list of versions as an ascending list."""
    # This does not go through rounds, because the operators of lots run it, and no generator runs in them.
    members = sorted(order.checked(names))
    wider = _with_bases(order, members)
    while len(wider) > len(members):
        members = wider
        wider = _with_bases(order, members)
    return members


def _with_bases(order, members):
    """Return the ascending list of the members and of all merge bases of any two of them."""
    found = set(members)
    for x, y in pairs_of(members):
        for base in merge_bases(order, x, y):
            found.add(base)
    return sorted(found)
