"""Runs that a rule chooses, and bad runs that are made shorter."""

from homefrees.errors import InvalidNumber
from homefrees.moves import is_possible, played, possible_moves
from homefrees.places import is_bad
from homefrees.runs import states_along

RULES = ("first", "turns", "late")


def steps_among(possible):
    """Return those of the moves that are steps."""
    return [move for move in possible if move[0] == "step"]


def first_step_behind(machine, steps, last):
    """Return the step of the thread whose turn comes first behind that of the thread called last."""
    threads = len(machine.threads)
    return min(steps, key=lambda move: (move[1] - last - 1) % threads)


def chosen(machine, rule, possible, last):
    """Return the one of the possible moves that the rule chooses, given the thread that stepped last."""
    steps = steps_among(possible)
    if rule == "first":
        return possible[0]
    if rule == "late":
        return steps[0] if steps else possible[-1]
    return first_step_behind(machine, steps, last) if steps else possible[0]


def schedule(machine, rule):
    """Return the moves of a run without stops, to its end, as the rule chooses them."""
    if rule not in RULES:
        raise InvalidNumber(rule)
    state = machine.start
    moves = []
    # Behind the last thread it is the turn of thread 0, which is the first one.
    last = len(machine.threads) - 1
    possible = moves_but_stops(machine, state)
    while possible:
        move = chosen(machine, rule, possible, last)
        if move[0] == "step":
            last = move[1]
        state = played(machine, state, move)[0]
        moves.append(move)
        possible = moves_but_stops(machine, state)
    return moves


def moves_but_stops(machine, state):
    """Return the sorted list of the possible moves that are no stops."""
    return [move for move in possible_moves(machine, state) if move[0] != "stop"]


def first_bad(machine, moves):
    """Return the number of moves behind which a run is bad for the first time, or None."""
    for number, state in enumerate(states_along(machine, moves)):
        if is_bad(machine, state):
            return number
    return None


def states_behind(machine, state, moves):
    """Return the list of the states behind each move from a state on, or None if one is not possible."""
    states = []
    for move in moves:
        if not is_possible(machine, state, move):
            return None
        state = played(machine, state, move)[0]
        states.append(state)
    return states


def run_without(machine, state, run, at):
    """Return the run without the move at the index, before which it is in the state, or None.

    It is cut behind its first bad state; None if it has none, or if a move is not possible.
    """
    rest = run[at + 1:]
    states = states_behind(machine, state, rest)
    if states is None:
        return None
    for many, follower in enumerate(states, start=1):
        if is_bad(machine, follower):
            return [*run[:at], *rest[:many]]
    return None


def shorter_run(machine, run):
    """Return the run without those of its moves, from the last one on, that can be left out."""
    # No state before the last one is bad, so that what is cut is always behind the move left out.
    states = states_along(machine, run)
    at = len(run) - 1
    while at >= 0:
        found = run_without(machine, states[at], run, at)
        if found is not None:
            run = found
        at -= 1
    return run


def shrunk(machine, moves):
    """Return a run to a bad state that is made shorter until no move can be left out, or None."""
    number = first_bad(machine, moves)
    if number is None:
        return None
    run = list(moves[:number])
    found = shorter_run(machine, run)
    while len(found) < len(run):
        run = found
        found = shorter_run(machine, run)
    return run
