"""The signs that words, names, lines and decimal numbers are made of."""

LETTERS = "abcdefghijklmnopqrstuvwxyz"
DIGITS = "0123456789"
WORD_SIGNS = "abcdefghijklmnopqrstuvwxyz0123456789"
LINE_SIGNS = "abcdefghijklmnopqrstuvwxyz0123456789 <=>|-"
WORD_LENGTH = 6


def made_of(value, signs):
    """Return True if each character of the string is one of the signs."""
    return all([sign in signs for sign in value])


def is_word(value):
    """Return True if the string is 1 to 6 lower-case letters and digits."""
    return 1 <= len(value) <= WORD_LENGTH and made_of(value, WORD_SIGNS)


def is_decimal(value):
    """Return True if the string is a decimal number without leading zeros."""
    return value == "0" or (value != "" and value[0] != "0" and made_of(value, DIGITS))


def number_within(value, low, high):
    """Return the number that the string is if it is a decimal number from low to high, otherwise None."""
    # Longer strings are not turned into numbers: Python refuses to do so for very long ones.
    if len(value) > len(str(high)) or not is_decimal(value):
        return None
    number = int(value)
    return number if low <= number <= high else None
