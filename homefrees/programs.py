"""Operations, programs, and their texts."""

from homefrees.errors import InvalidProgram, ParseError
from homefrees.integers import is_between, read_int

# For each word the least and the greatest value of each integer behind it.
LIMITS = {
    "alloc": ((0, 2), (0, 7)),
    "free": ((0, 7),),
    "adopt": ((0, 7),),
    "large": ((1, 8), (0, 7)),
    "grow": ((0, 7),),
    "drain": (),
}


def is_operation(value):
    """Return whether the value is an operation; accepts any value."""
    # A word that is no string may be one that a dict cannot look up.
    if not isinstance(value, tuple) or len(value) == 0 or not isinstance(value[0], str):
        return False
    limits = LIMITS.get(value[0])
    if limits is None or len(value) != len(limits) + 1:
        return False
    return all([is_between(number, low, high) for number, (low, high) in zip(value[1:], limits)])


def operation_text(operation):
    """Return the line of an operation."""
    return " ".join([str(part) for part in operation])


def read_operation(line):
    """Return the operation that is written in the line, or None if it is none."""
    words = line.split(" ")
    numbers = [read_int(word) for word in words[1:]]
    operation = (words[0], *numbers)
    return operation if is_operation(operation) else None


def program_text(program):
    """Return the text of a list or tuple of operations."""
    if not isinstance(program, (list, tuple)):
        raise InvalidProgram(None)
    for index, operation in enumerate(program):
        if not is_operation(operation):
            raise InvalidProgram(index)
    return "\n".join([operation_text(operation) for operation in program])


def parse_program(text):
    """Return the list of the operations of a text."""
    if not isinstance(text, str):
        raise ParseError(None)
    program = []
    # The empty text has no line here, though split would give it an empty one.
    lines = text.split("\n") if text else []
    for number, line in enumerate(lines, start=1):
        operation = read_operation(line)
        if operation is None:
            raise ParseError(number)
        program.append(operation)
    return program
