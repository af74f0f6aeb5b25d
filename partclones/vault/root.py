"""Roots: where a vault begins."""

from partclones.errors import Broken
from partclones.signs import is_decimal

ROOT_CELLS = (0, 1)
ROOT_WORD = "root"


def root_of(disk):
    """Return the root in force: the root cell, the count, and the first cell of the directory."""
    found = [root for root in [_root_in(disk, at) for at in ROOT_CELLS] if root is not None]
    if not found:
        raise Broken()
    first, last = found[0], found[-1]
    return last if last[1] > first[1] else first


def root_items(count, place):
    """Return what a root cell holds for a count and the first cell of a directory."""
    return ROOT_WORD, str(count), str(place)


def _root_in(disk, at):
    """Return the root in a root cell with its number ahead, or None if it holds none."""
    items = disk.read(at)
    if items is None or len(items) != 3:
        return None
    word, count, place = items
    if word != ROOT_WORD or not is_decimal(count) or not is_decimal(place):
        return None
    return at, int(count), int(place)
