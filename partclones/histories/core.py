"""Cores and thin histories."""

from partclones.closed.gaps import checked_closed
from partclones.histories.facts import fact_row
from partclones.histories.history import History
from partclones.histories.tally import moved_tally
from partclones.webs.restrict import restricted


def core(history, names):
    """Return the core of a history on a list of its versions, in the form of facts."""
    order = history.order()
    lower = restricted(order, names)
    rows = []
    for name in lower:
        rows.append(fact_row(name, lower.nearest(name), history.tree(name), history.origins(name)))
    return tuple(rows), moved_tally(order, history.tally(), names)


def thinned(history, names):
    """Return the thin history for a closed list of versions."""
    return History.of(core(history, checked_closed(history.order(), names)))
