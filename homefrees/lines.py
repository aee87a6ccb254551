"""Texts whose lines are a word and integers, separated by one blank."""

from homefrees.errors import ParseError
from homefrees.integers import read_int


def text_of(rows):
    """Return the text of a list of tuples of a word and integers, one in each line."""
    return "\n".join([" ".join([str(part) for part in row]) for row in rows])


def read_row(line):
    """Return the tuple of the word and the integers of a line, with None for what is no integer."""
    words = line.split(" ")
    numbers = [read_int(word) for word in words[1:]]
    return (words[0], *numbers)


def parse_rows(text, is_row):
    """Return the list of the rows of a text, which are those that the function is_row takes."""
    if not isinstance(text, str):
        raise ParseError(None)
    rows = []
    # The empty text has no line here, though split would give it an empty one.
    lines = text.split("\n") if text else []
    for number, line in enumerate(lines, start=1):
        row = read_row(line)
        if not is_row(row):
            raise ParseError(number)
        rows.append(row)
    return rows
