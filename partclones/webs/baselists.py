"""The base lists of two groups."""

from partclones.webs.bases import group_bases


def base_lists(order, ones, others):
    """Yield the base lists of two groups one after the other, each as an ascending list."""
    members = group_bases(order, ones, others)
    # A copy is yielded, because the caller may change it and the members are still in use.
    yield list(members)
    while len(members) > 1:
        members = _next_list(order, members)
        yield list(members)


def _next_list(order, members):
    """Return the maximal ones of the versions that are under at least two of the members."""
    shared = []
    for name in order.under_group(members):
        if len([member for member in members if order.is_under(name, member)]) > 1:
            shared.append(name)
    return order.highest(shared)
