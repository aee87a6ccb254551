"""Ledgers: which blocks change their place, move by move."""

from homefrees.book import FREE, Book
from homefrees.errors import InvalidRun
from homefrees.places import all_places
from homefrees.runs import states_along


def place_in_ledger(state, place):
    """Return what a ledger calls a place of the state: for a message it tells the socket to which it goes."""
    if place[0] != "flight":
        return place
    socket, _ = state.flight[place[1]]
    return ("flight", socket)


def places_in_ledger(state):
    """Return a dict with the place of each block that is not free."""
    return {block: place_in_ledger(state, place) for block, place in all_places(state)}


def transfers_between(before, behind):
    """Return the transfers of a move, given the places of the blocks before and behind it."""
    blocks = list(before) + [block for block in behind if block not in before]
    ways = [(block, before.get(block, FREE), behind.get(block, FREE)) for block in sorted(blocks)]
    return tuple([(block, source, target) for block, source, target in ways if source != target])


def ledger(machine, moves):
    """Return the list of the rows (move, transfers) of a run."""
    found = [places_in_ledger(state) for state in states_along(machine, moves)]
    return [
        (move, transfers_between(before, behind))
        for move, before, behind in zip(moves, found, found[1:])
    ]


def first_wrong(machine, rows):
    """Return the index of the first wrong row of a list or tuple, or None; its rows may be any values."""
    if not isinstance(rows, (list, tuple)):
        raise InvalidRun(None)
    book = Book(machine)
    for index, row in enumerate(rows):
        if not book.read(row):
            return index
    return None
