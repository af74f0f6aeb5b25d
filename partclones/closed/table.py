"""Tables."""

from partclones.closed.gaps import checked_closed, is_closed, pairs_of
from partclones.webs.bases import merge_bases


def table(order, names):
    """Return the table of a closed list of versions."""
    return [(x, y, merge_bases(order, x, y)) for x, y in pairs_of(checked_closed(order, names))]


def takes_table(order, names, rows):
    """Return True if the list of triples is the table of the list of versions, otherwise False."""
    return is_closed(order, names) and rows == table(order, names)
