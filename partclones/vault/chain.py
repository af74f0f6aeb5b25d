"""Chains: lists of strings in cells that name one another."""

from partclones.errors import BadSize, Broken
from partclones.signs import is_decimal

# The first of the eight strings of a cell tells the next cell.
STRINGS_IN_CELL = 7
MOST_STRINGS = 10000
LAST = "-"


def cells_for(count):
    """Return the number of cells that a list of so many strings needs."""
    if count < 0 or count > MOST_STRINGS:
        raise BadSize(count)
    return cells_taken(count)


def cells_taken(count):
    """Return the number of cells that a list of any number of strings needs."""
    return max(1, (count + STRINGS_IN_CELL - 1) // STRINGS_IN_CELL)


def laid(strings, places):
    """Return the cells of a chain that stores the strings in the cells with these numbers, in this order."""
    if len(places) != cells_taken(len(strings)):
        raise BadSize(len(places))
    followers = [*[str(place) for place in places[1:]], LAST]
    cells = []
    for at, place in enumerate(places):
        start = at * STRINGS_IN_CELL
        cells.append((place, (followers[at], *strings[start:start + STRINGS_IN_CELL])))
    return cells


def read_chain(disk, place):
    """Return the list of the strings of the chain that begins in a cell."""
    return [string for _, items in _cells_from(disk, place) for string in items[1:]]


def chain_cells(disk, place):
    """Return the list of the numbers of the cells of the chain that begins in a cell."""
    return [at for at, _ in _cells_from(disk, place)]


def _cells_from(disk, place):
    """Return the list of the pairs of a number and what the cell gives, along a chain."""
    found = {}
    at = place
    while at is not None:
        items = disk.read(at)
        if at in found or not items:
            raise Broken()
        found[at] = items
        at = _follower(disk, items[0])
    return list(found.items())


def _follower(disk, word):
    """Return the number of the next cell, or None behind the last one."""
    if word == LAST:
        return None
    if not is_decimal(word) or int(word) >= disk.cells:
        raise Broken()
    return int(word)
