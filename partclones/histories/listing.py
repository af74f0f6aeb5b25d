"""Listings of versions."""


def listing(history, *names, paths=True):
    """Return a list of lines, one for each of the versions, or for each version if none are named."""
    if names:
        chosen = sorted(history.order().checked(list(names)))
    else:
        chosen = history.names()
    return [_line(history, name, paths) for name in chosen]


def _line(history, name, paths):
    """Return the line of one version, with or without the number of its paths."""
    tree = history.tree(name)
    parts = [name.ljust(7), str(history.reach([name])).rjust(4)]
    if paths:
        parts.append(str(len(tree)).rjust(3))
    parts.append(str(sum([len(tree[path]) for path in tree])).rjust(4))
    return "".join(parts)
