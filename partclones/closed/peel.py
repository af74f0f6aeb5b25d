"""Free and needed members, and peeling."""

from partclones.closed.table import table
from partclones.errors import BadRanking, Repeated, Unknown


def is_free(order, names, name):
    """Return True if a member of a closed list of versions is free, and False if it is needed."""
    rows = table(order, names)
    if name not in names:
        raise Unknown(name)
    return name not in _needed(rows)


def peel(order, names, kept, ranking):
    """Yield the versions that are dropped when a closed list is peeled down to the kept ones."""
    rows = table(order, names)
    _check_kept(names, kept)
    if sorted(ranking) != sorted(names):
        raise BadRanking()
    left = [name for name in ranking if name not in kept]
    free = _free(rows, left)
    while free:
        dropped = free[0]
        yield dropped
        left = [name for name in left if name != dropped]
        rows = [(x, y, bases) for x, y, bases in rows if dropped not in (x, y)]
        # What stood earlier in the ranking may have been needed only because of what was dropped.
        free = _free(rows, left)


def _check_kept(names, kept):
    """Raise Unknown or Repeated at the first kept version that is not in the names or occurs earlier."""
    seen = set()
    for name in kept:
        if name not in names:
            raise Unknown(name)
        if name in seen:
            raise Repeated(name)
        seen.add(name)


def _free(rows, names):
    """Return the list of those of the names that are free where the rows are the table."""
    needed = _needed(rows)
    return [name for name in names if name not in needed]


def _needed(rows):
    """Return the ascending list of the needed members of the set with a table."""
    return sorted({base for x, y, bases in rows for base in bases if base not in (x, y)})
