"""How many pages there are and how much of them is used, and what a run costs."""

from homefrees.errors import InvalidNumber
from homefrees.integers import is_between
from homefrees.store import STORE


def check_numbers(machine, kind, socket):
    """Raise an error unless the machine has the class and the socket; accepts any values."""
    if not is_between(kind, 0, len(machine.classes) - 1):
        raise InvalidNumber(kind)
    if not is_between(socket, 0, machine.sockets - 1):
        raise InvalidNumber(socket)


def pages_of(state, kind, socket):
    """Return what the small pages of the class and the socket are used for."""
    return [use for use in state.pages if use[0] == "small" and use[1] == socket and use[2] == kind]


def away_from(use, blocks):
    """Return how many of the blocks of a small page are not in its list."""
    return len([number for number in range(blocks) if number not in use[3]])


def load_of(machine, state, kind, socket):
    """Return the load of a class and a socket of the machine."""
    blocks = machine.classes[kind]
    return sum([away_from(use, blocks) for use in pages_of(state, kind, socket)])


def load(machine, state, kind, socket):
    """Return the number of blocks of the small pages that are not in the lists of their pages."""
    check_numbers(machine, kind, socket)
    return load_of(machine, state, kind, socket)


def small_pages(machine, state, kind, socket):
    """Return the number of the small pages of the class and the socket."""
    check_numbers(machine, kind, socket)
    return len(pages_of(state, kind, socket))


def held(state):
    """Return the number of the pages that are not in the store."""
    return len(state.pages) - state.pages.count(STORE)


def is_adoption(machine, move, row, kind, socket):
    """Return whether the move brought a page of the class to the socket from another home."""
    state, event = row
    if event[0] != "adopt" or machine.threads[move[1]][0] != socket:
        return False
    _, page, home = event
    return home != socket and state.pages[page][2] == kind


def account(machine, moves, kind, socket):
    """Return the list of (pages, greatest load so far, adoptions so far) along a run."""
    rows = machine.run(moves)
    check_numbers(machine, kind, socket)
    greatest = load_of(machine, machine.start, kind, socket)
    adopted = 0
    told = [(len(pages_of(machine.start, kind, socket)), greatest, adopted)]
    for move, row in zip(moves, rows):
        state = row[0]
        greatest = max(greatest, load_of(machine, state, kind, socket))
        if is_adoption(machine, move, row, kind, socket):
            adopted += 1
        told.append((len(pages_of(state, kind, socket)), greatest, adopted))
    return told


def sent_by_sweeps(machine, rows):
    """Return how many messages the sweeps sent, in a run with these states and events."""
    sent = 0
    before = machine.start
    for state, event in rows:
        if event[0] == "sweep":
            sent += len(state.flight) - len(before.flight)
        before = state
    return sent


def costs(machine, moves):
    """Return the numbers of steps, hits, opened pages, batched blocks, messages and passed blocks."""
    rows = machine.run(moves)
    words = [event[0] for _, event in rows]
    steps = len([move for move in moves if move[0] == "step"])
    passed = words.count("pass") + sent_by_sweeps(machine, rows)
    # A block that is passed on is a message of its own.
    messages = words.count("send") + passed
    return (steps, words.count("hit"), words.count("open"), words.count("batch"), messages, passed)
