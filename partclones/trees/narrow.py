"""Trees narrowed to folders."""

from partclones.trees.paths import below
from partclones.trees.tree import tree_from


def narrowed(tree, folders):
    """Return the tree without the paths that are below none of the folders."""
    return tree_from({path: tree[path] for path in tree if any([below(path, folder) for folder in folders])})
