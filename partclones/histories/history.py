"""Histories."""

from partclones.histories.facts import fact_row, rising_rows
from partclones.histories.origins import line_origins
from partclones.histories.tally import count_under, reach_of
from partclones.trees.mergetree import merge_trees
from partclones.trees.tree import checked_tree, tree_from, tree_of
from partclones.webs.bases import merge_bases
from partclones.webs.basetree import base_tree
from partclones.webs.order import Order


class History:
    """Versions with their order, trees and origins, and a tally of forgotten versions."""

    def __init__(self):
        """Make a history without versions."""
        self._order = Order()
        # Trees and origins are never changed once they stand here, so copies of a history share them.
        self._trees = {}
        self._origins = {}
        self._tally = ()

    @staticmethod
    def of(facts):
        """Return the history with these facts."""
        rows, tally = facts
        history = History()
        for name, nearest, files, origins in rising_rows(rows):
            history._order.put(name, list(nearest))
            history._trees[name] = tree_of(files)
            history._origins[name] = tree_of(origins)
        history._tally = tally
        return history

    def names(self):
        """Return the ascending list of the names of the versions."""
        return self._order.names()

    def __contains__(self, name):
        """Return True if the string is the name of a version, otherwise False."""
        return self._order.has(name)

    def commit(self, name, parents, tree):
        """Add a version with a list of parents and a tree."""
        self._order.check_new(name)
        self._order.checked(parents)
        self._add(name, parents, checked_tree(tree))

    def merge(self, name, one, other):
        """Add a version that merges two versions, and return the list of the clashes."""
        self._order.check_new(name)
        parents = self._order.checked([one, other])
        tree, clashes = merge_trees(self.base(one, other), self._trees[one], self._trees[other])
        self._add(name, parents, tree)
        return clashes

    def pick(self, name, base, change, onto):
        """Add a version that carries a change onto a version, and return the list of the clashes."""
        self._order.check_new(name)
        for picked in (base, change, onto):
            self._order.check_known(picked)
        tree, clashes = merge_trees(self._trees[base], self._trees[onto], self._trees[change])
        self._add(name, [onto], tree)
        return clashes

    def tree(self, name):
        """Return the tree of a version."""
        self._order.check_known(name)
        return tree_from(self._trees[name])

    def origins(self, name):
        """Return the origins of a version, a dict from its paths to lists of names."""
        self._order.check_known(name)
        return tree_from(self._origins[name])

    def is_under(self, low, high):
        """Return True if version low is under version high, otherwise False."""
        return self._order.is_under(low, high)

    def bases(self, one, other):
        """Return the ascending list of the merge bases of two versions."""
        return merge_bases(self._order, one, other)

    def base(self, one, other):
        """Return the base tree of two versions."""
        return base_tree(self._order, self._trees, [one], [other])

    def reach(self, names):
        """Return the reach of a group."""
        return reach_of(self._order, self._tally, names)

    def lead(self, one, other):
        """Return the number of versions that are under the first, but not under the second."""
        self._order.check_known(one)
        self._order.check_known(other)
        both = count_under(self._order, self._tally, [one, other])
        return both - count_under(self._order, self._tally, [other])

    def order(self):
        """Return the order of the history, a new one."""
        return self._order.copied()

    def tally(self):
        """Return the tally, a tuple of pairs of a kind and a number."""
        return self._tally

    def facts(self):
        """Return the facts of the history."""
        rows = []
        for name in self._order:
            rows.append(fact_row(name, self._order.nearest(name), self._trees[name], self._origins[name]))
        return tuple(rows), self._tally

    def copied(self):
        """Return another history with the same facts."""
        other = History()
        other._order = self._order.copied()
        other._trees = dict(self._trees)
        other._origins = dict(self._origins)
        other._tally = self._tally
        return other

    def _add(self, name, parents, tree):
        """Add a version; all that is passed is checked, and the tree is not used elsewhere."""
        origins = {}
        for path in tree:
            elders = [(self._trees[low][path], self._origins[low][path]) for low in parents if path in self._trees[low]]
            origins[path] = line_origins(name, tree[path], elders)
        self._order.put(name, parents)
        self._trees[name] = tree
        self._origins[name] = origins
