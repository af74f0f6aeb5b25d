"""The merge of three trees."""

from partclones.errors import TooLarge
from partclones.texts.lines import MOST_LINES
from partclones.texts.mergetext import merge_texts
from partclones.trees.tree import MOST_PATHS, all_paths, tree_from


def merge_trees(base, ours, theirs):
    """Return the merged tree and its clashes; raise TooLarge at the first path too many."""
    texts = {}
    clashes = []
    for path in all_paths([base, ours, theirs]):
        text, clash = _merged_text(base.get(path), ours.get(path), theirs.get(path))
        if text is None:
            continue
        texts[path] = text
        if len(text) > MOST_LINES or len(texts) > MOST_PATHS:
            raise TooLarge(path)
        if clash is not None:
            clashes.append((path, clash))
    return tree_from(texts), clashes


def _merged_text(b, x, y):
    """Return the result at one path, a text or None, and the number of its clash or None."""
    if x == y or y == b:
        return x, None
    if x == b:
        return y, None
    if x is None or y is None:
        # One side removed what the other one changed: that counts as a clash without clash lines.
        return (y if x is None else x), 0
    lines, clashes = merge_texts([] if b is None else b, x, y)
    return lines, (clashes if clashes > 0 else None)
