"""Edits between texts: finding, applying and inverting them."""

from partclones.errors import BadEdit
from partclones.texts.matching import matched

LAST_PLACE = 400


def text_edits(old, new):
    """Return the list of the edits that lead from one text to another one."""
    edits = []
    old_start = new_start = 0
    # The ends of both texts stand for a last pair, so that the last stretches are not left out.
    for i, j in matched(old, new) + [(len(old), len(new))]:
        removed = tuple(old[old_start:i])
        added = tuple(new[new_start:j])
        if removed or added:
            edits.append((old_start, removed, added))
        old_start = i + 1
        new_start = j + 1
    return edits


def apply_edits(old, edits):
    """Return the lines to which edits lead; raise BadEdit at the first that does not fit."""
    for at, edit in enumerate(edits):
        if not (_in_order(edits, at) and _stands_in(old, edit)):
            raise BadEdit(at)
    lines = []
    start = 0
    for place, removed, added in edits:
        lines.extend(old[start:place])
        lines.extend(added)
        start = place + len(removed)
    lines.extend(old[start:])
    return lines


def inverse_edits(edits):
    """Return the edits that lead back; raise BadEdit at the first that is out of order."""
    for at in range(len(edits)):
        if not _in_order(edits, at):
            raise BadEdit(at)
    inverse = []
    shift = 0
    for place, removed, added in edits:
        inverse.append((place + shift, added, removed))
        shift = shift + len(added) - len(removed)
    return inverse


def _in_order(edits, at):
    """Return True if the item at a place is an edit that begins behind the one before it."""
    place, removed, added = edits[at]
    if place < 0 or place > LAST_PLACE or not (removed or added):
        return False
    return at == 0 or place >= _end(edits[at - 1])


def _end(edit):
    """Return the place behind the removed lines of an edit."""
    place, removed, _ = edit
    return place + len(removed)


def _stands_in(old, edit):
    """Return True if the place of an edit is in the text and its removed lines stand there."""
    place, removed, _ = edit
    return place <= len(old) and tuple(old[place:_end(edit)]) == removed
