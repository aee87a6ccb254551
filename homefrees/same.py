"""What is equal and of the same kinds throughout, where == takes True for 1."""

from homefrees.integers import is_int


def are_same(value, expected):
    """Return whether the value equals the expected one, and all their parts are of the same kinds.

    The value may be any; the expected one consists of lists, tuples, integers and strings.
    """
    if isinstance(expected, list):
        return isinstance(value, list) and have_same_items(value, expected)
    if isinstance(expected, tuple):
        return isinstance(value, tuple) and have_same_items(value, expected)
    if isinstance(expected, int):
        return is_int(value) and value == expected
    # No value of another kind equals a string.
    return value == expected


def have_same_items(value, expected):
    """Return whether the items of two lists or tuples are the same."""
    if len(value) != len(expected):
        return False
    return all([are_same(item, wanted) for item, wanted in zip(value, expected)])
