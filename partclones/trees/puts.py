"""Puts: what sets or removes paths of a tree."""

from partclones.errors import BadPut
from partclones.texts.lines import fault_in_text
from partclones.trees.changes import tree_changes
from partclones.trees.paths import is_path
from partclones.trees.tree import tree_from


def puts_between(old, new):
    """Return the list of the puts that turn one tree into another one."""
    return [(path, after) for path, _, after in tree_changes(old, new)]


def put_tree(tree, puts):
    """Return the tree with puts put into it; raise BadPut at the first that is wrong."""
    place = fault_in_puts(puts)
    if place is not None:
        raise BadPut(place)
    texts = dict(tree)
    for path, lines in puts:
        # A path with None is left out when the new tree is made.
        texts[path] = lines
    return tree_from(texts)


def fault_in_puts(puts):
    """Return the place of the first item that is not a put or whose path occurs earlier, or None."""
    seen = set()
    for place, (path, lines) in enumerate(puts):
        if not is_path(path) or path in seen or not _is_put_text(lines):
            return place
        seen.add(path)
    return None


def _is_put_text(lines):
    """Return True for None and for a tuple of lines that is not too long for a text."""
    return lines is None or (isinstance(lines, tuple) and fault_in_text(lines) is None)
