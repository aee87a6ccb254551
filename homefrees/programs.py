"""Operations, programs, and their texts."""

from homefrees.errors import InvalidProgram
from homefrees.integers import is_between
from homefrees.lines import parse_rows, text_of

# For each word the least and the greatest value of each integer behind it.
LIMITS = {
    "alloc": ((0, 2), (0, 7)),
    "free": ((0, 7),),
    "adopt": ((0, 7),),
    "large": ((1, 8), (0, 7)),
    "grow": ((0, 7),),
    "drain": (),
}


def is_operation(value):
    """Return whether the value is an operation; accepts any value."""
    # A word that is no string may be one that a dict cannot look up.
    if not isinstance(value, tuple) or len(value) == 0 or not isinstance(value[0], str):
        return False
    limits = LIMITS.get(value[0])
    if limits is None or len(value) != len(limits) + 1:
        return False
    return all([is_between(number, low, high) for number, (low, high) in zip(value[1:], limits)])


def program_text(program):
    """Return the text of a list or tuple of operations."""
    if not isinstance(program, (list, tuple)):
        raise InvalidProgram(None)
    for index, operation in enumerate(program):
        if not is_operation(operation):
            raise InvalidProgram(index)
    return text_of(program)


def parse_program(text):
    """Return the list of the operations of a text."""
    return parse_rows(text, is_operation)
