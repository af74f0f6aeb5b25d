"""Tallies of forgotten versions, and reaches."""


def moved_tally(order, tally, names):
    """Return the tally after all versions outside of a list of versions are forgotten."""
    kept = order.checked(names)
    # Seen from above, a version that is still there is like a forgotten one with itself as its kind.
    forgotten = [((name,), 1) for name in order if name not in kept]
    numbers = {}
    for kind, number in [*tally, *forgotten]:
        moved = tuple(order.lowest([name for name in order.above_group(kind) if name in kept]))
        # What is under no kept version has no kind.
        if moved:
            numbers[moved] = numbers.get(moved, 0) + number
    return tuple(sorted(numbers.items()))


def reach_of(order, tally, names):
    """Return the reach of a group."""
    return count_under(order, tally, order.checked(names))


def count_under(order, tally, names):
    """Return the number of versions, kept and forgotten, under some versions of the order."""
    lower = order.under_group(names)
    return len(lower) + sum([number for kind, number in tally if any([name in lower for name in kind])])
