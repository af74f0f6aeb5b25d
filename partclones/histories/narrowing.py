"""Narrowed histories."""

from partclones.histories.history import History
from partclones.trees.narrow import narrowed
from partclones.trees.tree import files_of, tree_of


def narrowed_history(history, folders):
    """Return the history narrowed to a list of folders."""
    rows, tally = history.facts()
    narrow = []
    for name, nearest, files, origins in rows:
        narrow.append((name, nearest, _narrowed_files(files, folders), _narrowed_files(origins, folders)))
    return History.of((tuple(narrow), tally))


def _narrowed_files(files, folders):
    """Return those of the files, or of the origins in the same form, that are below one of the folders."""
    return files_of(narrowed(tree_of(files), folders))
