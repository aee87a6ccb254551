"""Reports of runs, and what cleans up behind them."""

from homefrees.analysis import normal_run
from homefrees.errors import InvalidLogs
from homefrees.ledgers import ledger
from homefrees.loads import account
from homefrees.logs import logs_of, merged
from homefrees.moves import played, possible_moves
from homefrees.same import are_same

# The moves that clean up, the ones that are made first in front.
CLEANING = ("recover", "carry", "sweep")


def peak(machine, moves, kind, socket):
    """Return (kind, socket, pages, load, adopted) for a run."""
    told = account(machine, moves, kind, socket)
    _, greatest, adopted = told[-1]
    return (kind, socket, max([pages for pages, _, _ in told]), greatest, adopted)


def report(machine, moves):
    """Return the tuple (logs, rows, peaks) that tells of a run and of its normal run."""
    logs = logs_of(machine, moves)
    normal = normal_run(machine, moves)
    kinds = range(len(machine.classes))
    peaks = [peak(machine, normal, kind, socket) for kind in kinds for socket in range(machine.sockets)]
    return (logs, ledger(machine, normal), peaks)


def run_with(machine, logs):
    """Return a run with these logs, or None if there is none; accepts any value."""
    try:
        word, found = merged(machine, logs)
    except InvalidLogs:
        return None
    return found if word == "run" else None


def check_report(machine, value):
    """Return whether the value is the report of some run; accepts any value."""
    if not isinstance(value, tuple) or len(value) != 3:
        return False
    moves = run_with(machine, value[0])
    return moves is not None and are_same(value, report(machine, moves))


def cleaning_move(machine, state):
    """Return the move that cleans up next, or None."""
    possible = possible_moves(machine, state)
    for word in CLEANING:
        for move in possible:
            if move[0] == word:
                return move
    return None


def cleanup(machine, moves):
    """Return the moves that clean up behind a run."""
    state = machine.after(moves)
    found = []
    move = cleaning_move(machine, state)
    while move is not None:
        found.append(move)
        state = played(machine, state, move)[0]
        move = cleaning_move(machine, state)
    return found
