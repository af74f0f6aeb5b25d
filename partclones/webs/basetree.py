"""The base tree of two groups."""

from partclones.trees.choose import chosen_tree
from partclones.webs.baselists import base_lists


def base_tree(order, trees, ones, others):
    """Return the base tree of two groups, where trees has the tree of each version."""
    tree = {}
    # Chosen over the empty tree, the only tree of a list is its own choice, and no tree gives the empty tree.
    for members in reversed(list(base_lists(order, ones, others))):
        tree = chosen_tree(tree, [trees[name] for name in members])
    return tree
