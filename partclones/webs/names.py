"""Names of versions and marks."""

from partclones.signs import LETTERS, is_word


def is_name(value):
    """Return True if the string is a name, otherwise False."""
    return is_word(value) and value[0] in LETTERS
