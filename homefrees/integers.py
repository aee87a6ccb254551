"""Integers as the document means them: True and False are none."""


def is_int(value):
    """Return whether the value is an integer; accepts any value."""
    return isinstance(value, int) and not isinstance(value, bool)


def is_between(value, low, high):
    """Return whether the value is an integer from low to high; accepts any value."""
    return is_int(value) and low <= value <= high


def read_int(word):
    """Return the integer that is written in the string, or None if it is none.

    It is written in 1 to 9 digits without leading zeros.
    """
    # isdigit alone also takes digits beyond ASCII, which int does not read.
    if not (word.isascii() and word.isdigit()) or len(word) > 9:
        return None
    if len(word) > 1 and word.startswith("0"):
        return None
    return int(word)
