"""The chosen text and the chosen tree."""

from partclones.trees.tree import all_paths, tree_from


def chosen_text(base, texts):
    """Return the chosen text of a base and a list of texts as a new list, or None."""
    others = []
    for text in texts:
        if text != base and text not in others:
            others.append(text)
    chosen = others[0] if len(others) == 1 else base
    return None if chosen is None else list(chosen)


def chosen_tree(base, trees):
    """Return the chosen tree of a base tree and a list of trees."""
    texts = {}
    for path in all_paths([base, *trees]):
        texts[path] = chosen_text(base.get(path), [tree.get(path) for tree in trees])
    return tree_from(texts)
