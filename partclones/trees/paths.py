"""Paths and folders."""

from partclones.signs import is_word

MOST_WORDS = 3


def is_path(value):
    """Return True if the string is a path, otherwise False."""
    words = value.split("/")
    return len(words) <= MOST_WORDS and all([is_word(word) for word in words])


def below(path, folder):
    """Return True if the path is at or below the folder, otherwise False."""
    return path == folder or path.startswith(folder + "/")
