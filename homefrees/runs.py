"""Runs, which are lists of moves, and their texts."""

from homefrees.errors import InvalidRun
from homefrees.integers import is_between
from homefrees.lines import parse_rows, text_of

# In ascending order, which is that of the moves in a sorted list.
WORDS = ("carry", "recover", "step", "stop", "sweep")

GREATEST = 999999999


def is_move(value):
    """Return whether the value has the form of a move; accepts any value."""
    if not isinstance(value, tuple) or len(value) != 2:
        return False
    return value[0] in WORDS and is_between(value[1], 0, GREATEST)


def run_text(moves):
    """Return the text of a list or tuple of moves."""
    if not isinstance(moves, (list, tuple)):
        raise InvalidRun(None)
    for index, move in enumerate(moves):
        if not is_move(move):
            raise InvalidRun(index)
    return text_of(moves)


def parse_run(text):
    """Return the list of the moves of a text."""
    return parse_rows(text, is_move)


def states_along(machine, moves):
    """Return the list of the start and of the state behind each move of a run."""
    states = [machine.start]
    states.extend([state for state, _ in machine.run(moves)])
    return states
