"""Trees: checking them, and their files."""

from partclones.errors import BadTree
from partclones.texts.lines import fault_in_text
from partclones.trees.paths import is_path

MOST_PATHS = 8


def checked_tree(tree):
    """Return a new equal tree; raise BadTree at the first path that is wrong."""
    for number, path in enumerate(sorted(tree)):
        if number == MOST_PATHS or not is_path(path):
            raise BadTree(path, None)
        place = fault_in_text(tree[path])
        if place is not None:
            raise BadTree(path, place)
    return tree_from(tree)


def files_of(tree):
    """Return the files of a tree, a tuple of pairs of a path and a tuple of lines."""
    return tuple([(path, tuple(tree[path])) for path in sorted(tree)])


def tree_of(files):
    """Return the tree with these files."""
    return {path: list(lines) for path, lines in files}


def tree_from(texts):
    """Return a new tree from a dict of paths to lines; a path with None is left out."""
    return {path: list(texts[path]) for path in sorted(texts) if texts[path] is not None}


def all_paths(trees):
    """Return the ascending list of the paths that at least one of the trees has."""
    return sorted({path for tree in trees for path in tree})
