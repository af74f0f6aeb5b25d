"""Packs: trees told by what they change in other trees."""

from partclones.errors import Misfit
from partclones.trees.puts import put_tree, puts_between


def pack(trees, names, have):
    """Return the pack that sends the trees of versions to somebody who has those of some others."""
    entries = []
    there = list(have)
    for name in sorted(names):
        base = _best_base(trees, sorted(there), trees[name])
        puts = puts_between({} if base is None else trees[base], trees[name])
        entries.append((name, base, tuple(puts)))
        there.append(name)
    return tuple(entries)


def unpack(entries, have):
    """Return a dict from the names of entries to their trees; raise Misfit at the first without its base."""
    trees = {}
    for place, (name, base, puts) in enumerate(entries):
        if base is None:
            old = {}
        elif base in trees:
            old = trees[base]
        elif base in have:
            old = have[base]
        else:
            raise Misfit(place)
        trees[name] = put_tree(old, puts)
    return trees


def _best_base(trees, bases, tree):
    """Return the first of the bases with the fewest puts, or None if none of them has fewer than no base."""
    best = None
    fewest = len(tree)
    for base in bases:
        count = len(puts_between(trees[base], tree))
        if count < fewest:
            best = base
            fewest = count
    return best
