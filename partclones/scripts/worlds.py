"""Two worlds that look alike on a list of versions that is not closed."""

from partclones.closed.gaps import first_gap
from partclones.errors import TooLarge
from partclones.histories.history import History
from partclones.scripts.fresh import fresh_names, fresh_path
from partclones.trees.tree import MOST_PATHS

LINE = "kept"


def two_worlds(history, names):
    """Return None for a closed list, otherwise the first world, the second world and their commands."""
    gap = first_gap(history.order(), names)
    if gap is None:
        return None
    x, y, missing = gap
    path = fresh_path(history)
    if len(history.tree(missing)) >= MOST_PATHS:
        raise TooLarge(path)
    one, other, merged = fresh_names(history.names(), 3)
    commands = [
        ("commit", one, (x,), _cleared(history, x, [(path, (LINE,))])),
        ("commit", other, (y,), _cleared(history, y, [])),
        ("merge", merged, one, other),
        ("ask", ("show", merged)),
    ]
    return _with_path(history, missing, path), history.copied(), commands


def _cleared(history, name, puts):
    """Return the ascending tuple of some puts and of those that remove all paths of a version."""
    removed = [(path, None) for path in history.tree(name)]
    # The paths are different, so what is put is not compared.
    return tuple(sorted([*removed, *puts]))


def _with_path(history, name, path):
    """Return the history in which the tree of a version has one more path with one line, whose origin it is."""
    rows, tally = history.facts()
    changed = []
    for row in rows:
        if row[0] == name:
            files = tuple(sorted([*row[2], (path, (LINE,))]))
            origins = tuple(sorted([*row[3], (path, (name,))]))
            changed.append((name, row[1], files, origins))
        else:
            changed.append(row)
    return History.of((tuple(changed), tally))
