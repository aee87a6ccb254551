"""Logs of runs, without clocks: what each thread did, and what it found."""

from homefrees.errors import InvalidLogs, InvalidMove
from homefrees.moves import is_possible, played
from homefrees.same import are_same

# For each event of a step the words that it touches, by what they are for the thread.
TOUCHED = {
    "hit": ("slot",),
    "take": ("arrivals",),
    "read": ("arrivals",),
    "clear": ("arrivals",),
    "home": ("pages", "freed"),
    "vanish": ("pages", "freed"),
    "pass": ("flight", "pages"),
    "fill": ("pages",),
    "open": ("pages",),
    "look": ("pages",),
    "fail": ("pages", "slot"),
    "keep": ("pages", "slot"),
    "batch": ("pages", "slot"),
    "nothing": ("pages", "slot"),
    "return": ("pages", "slot"),
    "adopt": ("pages", "slot"),
    "large": ("pages", "slot"),
    "grow": ("pages", "slot"),
    "send": ("flight",),
    "drop": (),
}


def words_of_step(machine, state, number, event):
    """Return the words that a step of the thread touches, given the state before it and its event."""
    socket, program = machine.threads[number]
    at = state.threads[number][1]
    operation = program[at] if at < len(program) else ("flush",)
    touched = TOUCHED[event[0]]
    words = [(name,) for name in ("flight", "pages") if name in touched]
    if "arrivals" in touched:
        words.append(("arrivals", socket))
    # A block that comes home from a slot was freed; from a hand or a cache, no slot is touched.
    if "slot" in touched or ("freed" in touched and operation[0] == "free"):
        words.append(("slot", operation[-1]))
    return words


def words_touched(machine, state, move, event):
    """Return the sorted list of the words that a move touches, given the state before and the event."""
    word, number = move
    if word == "step":
        return sorted(words_of_step(machine, state, number, event))
    if word == "stop":
        return [("stops",)]
    if word == "carry":
        return [("arrivals", event[1]), ("flight",)]
    if word == "recover":
        return [*[("arrivals", socket) for socket in range(machine.sockets)], ("pages",)]
    return [("arrivals", number), ("flight",), ("pages",)]


def words_of(machine, state, move):
    """Return the sorted list of the words that a possible move touches."""
    if not is_possible(machine, state, move):
        raise InvalidMove(move)
    event = played(machine, state, move)[1]
    return words_touched(machine, state, move, event)


def log_of(machine, move):
    """Return the index of the log into which the move belongs."""
    word, number = move
    return number if word in ("step", "stop") else len(machine.threads)


def entry_of(machine, state, move, event, versions):
    """Return the entry of a move, given the state and the versions of the words before it."""
    words = words_touched(machine, state, move, event)
    return (move, event, tuple([(word, versions.get(word, 0)) for word in words]))


def count_touches(versions, entry):
    """Add one to the versions of the words that the move of the entry touched."""
    for word, version in entry[2]:
        versions[word] = version + 1


def logs_of(machine, moves):
    """Return the list of the logs of a run: one for each thread, and one for the carrier."""
    rows = machine.run(moves)
    logs = [[] for _ in range(len(machine.threads) + 1)]
    versions = {}
    before = machine.start
    for move, (state, event) in zip(moves, rows):
        entry = entry_of(machine, before, move, event, versions)
        count_touches(versions, entry)
        logs[log_of(machine, move)].append(entry)
        before = state
    return logs


def check_logs(machine, logs):
    """Raise an error unless the value has a list or tuple for each log; accepts any value."""
    if not isinstance(logs, (list, tuple)) or len(logs) != len(machine.threads) + 1:
        raise InvalidLogs(None)
    for index, log in enumerate(logs):
        if not isinstance(log, (list, tuple)):
            raise InvalidLogs(index)


def fitting(machine, state, versions, index, value):
    """Return (state, entry) behind the next entry of the log with this index, or None if it does not fit."""
    if not isinstance(value, tuple) or len(value) != 3:
        return None
    move = value[0]
    if not is_possible(machine, state, move) or log_of(machine, move) != index:
        return None
    follower, event = played(machine, state, move)
    entry = entry_of(machine, state, move, event, versions)
    return (follower, entry) if are_same(value, entry) else None


def unfinished(logs, positions):
    """Return the list of the indexes of the logs that have entries left."""
    return [index for index, log in enumerate(logs) if positions[index] < len(log)]


def first_fitting(machine, state, versions, logs, positions, order):
    """Return (index, state, entry) for the first log, in the order of these indexes, whose next entry fits, or None."""
    for index in order:
        found = fitting(machine, state, versions, index, logs[index][positions[index]])
        if found is not None:
            return (index, *found)
    return None


def put_together(machine, logs, ordered):
    """Return (moves, positions): a run that the logs tell, as far as they fit, and the indexes of their next entries.

    Given the logs and the positions, ordered returns the indexes of those with entries left, in the
    order in which they are tried.
    """
    state = machine.start
    versions = {}
    moves = []
    positions = [0] * len(logs)
    found = first_fitting(machine, state, versions, logs, positions, ordered(logs, positions))
    while found is not None:
        index, state, entry = found
        count_touches(versions, entry)
        moves.append(entry[0])
        positions[index] += 1
        found = first_fitting(machine, state, versions, logs, positions, ordered(logs, positions))
    return (moves, positions)


def merged(machine, logs):
    """Return ("run", moves) with a run that has these logs, or ("stuck", positions); accepts any value."""
    check_logs(machine, logs)
    moves, positions = put_together(machine, logs, unfinished)
    if unfinished(logs, positions):
        return ("stuck", positions)
    return ("run", moves)
