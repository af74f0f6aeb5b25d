"""Changes between trees: finding, applying and undoing them."""

from partclones.errors import Misfit
from partclones.trees.tree import all_paths, tree_from


def tree_changes(old, new):
    """Return the list of the changes from one tree to another one."""
    changes = [(path, _lines_at(old, path), _lines_at(new, path)) for path in all_paths([old, new])]
    return [(path, before, after) for path, before, after in changes if before != after]


def apply_changes(tree, changes):
    """Return the tree to which changes lead; raise Misfit at the first that does not fit."""
    texts = {path: tuple(tree[path]) for path in tree}
    for place, (path, before, after) in enumerate(changes):
        if texts.get(path) != before:
            raise Misfit(place)
        texts[path] = after
    return tree_from(texts)


def undo_changes(changes):
    """Return the list of the changes that undoes a list of changes."""
    return [(path, after, before) for path, before, after in reversed(changes)]


def _lines_at(tree, path):
    """Return the lines at a path of the tree as a tuple, or None if the tree lacks the path."""
    return tuple(tree[path]) if path in tree else None
