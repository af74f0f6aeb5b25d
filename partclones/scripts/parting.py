"""Scripts that part histories."""

from partclones.errors import UnlikeNames
from partclones.scripts.fresh import fresh_names


def parting(first, second):
    """Return None for histories with the same facts, otherwise a script that they answer differently."""
    if first.names() != second.names():
        raise UnlikeNames()
    if first.facts() == second.facts():
        return None
    question = _parting_question(first, second)
    if question is not None:
        return [("ask", question)]
    group = _parting_group(first, second)
    if len(group) == 1:
        return [("ask", ("reach", group[0]))]
    name = fresh_names(first.names(), 1)[0]
    return [("commit", name, tuple(group), ()), ("ask", ("reach", name))]


def _parting_question(first, second):
    """Return the first question about files, origins and orders that is answered differently, or None."""
    names = first.names()
    for name in names:
        if first.tree(name) != second.tree(name):
            return "show", name
    for name in names:
        if first.origins(name) != second.origins(name):
            return "origins", name
    for low in names:
        for high in names:
            if first.is_under(low, high) != second.is_under(low, high):
                return "under", low, high
    return None


def _parting_group(first, second):
    """Return the ascending list of a group whose reaches differ, where only the tallies differ."""
    order = first.order()
    differences = _differences(order, first.tally(), second.tally())
    outside = order.under_group(order.names())
    if sum([differences[roof] for roof in differences]) == 0:
        _, chosen = min([(len(roof), roof) for roof in differences if differences[roof] != 0])
        outside = [name for name in outside if name not in chosen]
    return order.highest(outside)


def _differences(order, ones, others):
    """Return a dict from roofs, ascending tuples, to what the first tally has more than the second one."""
    differences = {}
    for tally, sign in [(ones, 1), (others, -1)]:
        for kind, number in tally:
            roof = tuple(sorted(order.above_group(kind)))
            differences[roof] = differences.get(roof, 0) + sign * number
    return differences
