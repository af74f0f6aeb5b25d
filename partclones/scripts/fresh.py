"""Names and paths that are not in use."""

from partclones.errors import BadSize

MOST_NAMES = 100


def fresh_names(taken, count):
    """Return the list of the first so many of the names x0, x1, ... that are not taken."""
    if count < 0 or count > MOST_NAMES:
        raise BadSize(count)
    return _first_fresh("x", taken, count)


def fresh_path(history):
    """Return the first of the paths p0, p1, ... that no tree of a history has."""
    used = [path for name in history.names() for path in history.tree(name)]
    return _first_fresh("p", used, 1)[0]


def _first_fresh(sign, used, count):
    """Return the list of the first so many of a sign with 0, 1, ... behind it that are not used."""
    barred = set(used)
    found = []
    number = 0
    while len(found) < count:
        word = f"{sign}{number}"
        if word not in barred:
            found.append(word)
        number += 1
    return found
