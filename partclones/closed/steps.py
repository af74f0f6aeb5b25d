"""Derivations."""

from partclones.webs.bases import merge_bases


def derivation(order, names):
    """Return a derivation whose first parts are the members of the closure outside of the list."""
    there = order.checked(names)
    steps = []
    done = 0
    # The list grows while it is gone through; each member meets all that came before it.
    while done < len(there):
        x = there[done]
        earlier = there[:done]
        for y in earlier:
            for base in merge_bases(order, x, y):
                if base not in there:
                    steps.append((base, x, y))
                    there.append(base)
        done += 1
    return steps


def takes_steps(order, names, steps):
    """Return True if the list of triples of strings is a derivation for the list of versions, otherwise False."""
    there = order.checked(names)
    for b, x, y in steps:
        if x == y or x not in there or y not in there or b in there:
            return False
        if b not in merge_bases(order, x, y):
            return False
        there.append(b)
    return True
