"""The signs that words, names and lines are made of."""

LETTERS = "abcdefghijklmnopqrstuvwxyz"
WORD_SIGNS = "abcdefghijklmnopqrstuvwxyz0123456789"
LINE_SIGNS = "abcdefghijklmnopqrstuvwxyz0123456789 <=>|-"
WORD_LENGTH = 6


def made_of(value, signs):
    """Return True if each character of the string is one of the signs."""
    return all([sign in signs for sign in value])


def is_word(value):
    """Return True if the string is 1 to 6 lower-case letters and digits."""
    return 1 <= len(value) <= WORD_LENGTH and made_of(value, WORD_SIGNS)
