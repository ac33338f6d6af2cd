"""What kinds of values there are: each function here takes any value or word."""

LETTERS = "abcdefghijklmnopqrstuvwxyz"
DIGITS = "0123456789"


def is_integer_from(value, least):
    """Whether value is an integer that is not below least."""
    # To Python a bool is an int; to this package it is none.
    return isinstance(value, int) and not isinstance(value, bool) and value >= least


def is_number(value):
    """Whether value is an integer from 0 on."""
    return is_integer_from(value, 0)


def is_sequence(value):
    """Whether value is a list or a tuple."""
    return isinstance(value, (list, tuple))


def is_name(value):
    """Whether value is a string of 1 to 4 letters from a to z."""
    return isinstance(value, str) and 1 <= len(value) <= 4 and all([letter in LETTERS for letter in value])


def is_numeral(word):
    """Whether the string word is a number of 1 or 2 digits without a leading zero."""
    if not 1 <= len(word) <= 2 or not all([digit in DIGITS for digit in word]):
        return False
    return len(word) == 1 or word[0] != "0"
