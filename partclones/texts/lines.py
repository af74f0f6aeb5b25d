"""Lines and texts."""

from partclones.errors import BadText
from partclones.signs import LINE_SIGNS, made_of

LINE_LENGTH = 20
MOST_LINES = 40


def is_line(value):
    """Return True if the string is a line, otherwise False."""
    return len(value) <= LINE_LENGTH and made_of(value, LINE_SIGNS)


def fault_in_text(items):
    """Return the place of the first item that is no line of a text, or None."""
    for place, item in enumerate(items):
        if place == MOST_LINES or not is_line(item):
            return place
    return None


def checked_text(text):
    """Return a new list of the lines; raise BadText at the first item that is none."""
    place = fault_in_text(text)
    if place is not None:
        raise BadText(place)
    return list(text)
