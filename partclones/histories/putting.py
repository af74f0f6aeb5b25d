"""Commits that are told by puts."""

from partclones.trees.puts import put_tree


def commit_puts(history, name, parents, puts):
    """Commit the tree of the first parent, or the empty tree without parents, with the puts put into it."""
    order = history.order()
    # These come ahead of the puts, and what the commit itself checks comes behind them.
    order.check_new(name)
    order.checked(parents)
    tree = history.tree(parents[0]) if parents else {}
    history.commit(name, parents, put_tree(tree, puts))
