"""Where the blocks are, as the rows of a ledger tell it, and which rows are right."""

from homefrees.forms import is_block, is_tuple_of
from homefrees.integers import is_between
from homefrees.runs import is_move

FREE = ("free",)

# For each move and each source the targets, all by their words. Free is a target wherever page is
# one, and for page itself in steps and sweeps.
TARGETS = {
    ("step", "free"): ("page", "cache"),
    ("step", "page"): ("cache", "free"),
    ("step", "cache"): ("slot", "page", "free", "flight"),
    ("step", "slot"): ("cache", "page", "free", "batch"),
    ("step", "batch"): ("flight",),
    ("step", "arrivals"): ("hand",),
    ("step", "hand"): ("page", "free", "flight"),
    ("carry", "flight"): ("arrivals",),
    ("recover", "hand"): ("arrivals",),
    ("recover", "cache"): ("arrivals",),
    ("recover", "batch"): ("arrivals",),
    ("sweep", "arrivals"): ("page", "free", "flight"),
    ("sweep", "page"): ("free",),
}


def is_own(machine, move, place):
    """Return whether the place may stand in the move, if this is no carry, by its thread or its socket."""
    word, number = move
    if place[0] in ("hand", "cache", "batch"):
        return place[1] == number
    # A recover delivers to the arrivals of any socket.
    if place[0] == "arrivals" and word != "recover":
        socket = number if word == "sweep" else machine.threads[number][0]
        return place[1] == socket
    return True


def may_go(machine, move, source, target):
    """Return whether a block can go from one place to the other in this move."""
    if target[0] not in TARGETS.get((move[0], source[0]), ()):
        return False
    if move[0] == "carry":
        return target[1] == source[1]
    return is_own(machine, move, source) and is_own(machine, move, target)


def is_move_of(machine, value):
    """Return whether the value has the form of a move, with a thread or a socket of the machine; accepts any value."""
    if not is_move(value):
        return False
    word, number = value
    if word == "carry":
        return True
    return number < (machine.sockets if word == "sweep" else len(machine.threads))


def is_place(machine, value):
    """Return whether the value is a place of a ledger; accepts any value."""
    if not isinstance(value, tuple):
        return False
    if value in (FREE, ("page",)):
        return True
    if len(value) != 2:
        return False
    word, number = value
    if word in ("arrivals", "flight"):
        return is_between(number, 0, machine.sockets - 1)
    if word in ("hand", "cache", "batch"):
        return is_between(number, 0, len(machine.threads) - 1)
    return word == "slot" and is_between(number, 0, machine.slots - 1)


def is_transfer(machine, value):
    """Return whether the value is a tuple of a block and two places; accepts any value."""
    if not is_tuple_of(value, 3):
        return False
    block, source, target = value
    return is_block(machine, block) and is_place(machine, source) and is_place(machine, target)


def is_row(machine, value):
    """Return whether the value has the form of a row, with its blocks in their order; accepts any value."""
    if not is_tuple_of(value, 2):
        return False
    move, transfers = value
    if not is_move_of(machine, move) or not isinstance(transfers, tuple):
        return False
    if not all([is_transfer(machine, transfer) for transfer in transfers]):
        return False
    blocks = [block for block, _, _ in transfers]
    return all([block < follower for block, follower in zip(blocks, blocks[1:])])


def numbers_by_pages(blocks):
    """Return a dict with the list of the numbers of the blocks for each of their pages."""
    found = {}
    for page, number in blocks:
        found.setdefault(page, []).append(number)
    return found


class Book:
    """At which place each block is, and which pages are in use, behind the rows that were read."""

    def __init__(self, machine):
        self._machine = machine
        # The place of each block that was in a row, and how many blocks are at each place.
        self._places = {}
        self._amounts = {}
        # For each page how many of its blocks left the free ones together.
        self._sizes = {}

    def read(self, row):
        """Read a row, and return whether it is right; behind a wrong one, nothing more can be read."""
        if not is_row(self._machine, row):
            return False
        move, transfers = row
        for block, source, target in transfers:
            if self._places.get(block, FREE) != source or not may_go(self._machine, move, source, target):
                return False
        if not self._open_pages([block for block, source, _ in transfers if source == FREE]):
            return False
        if not self._close_pages([block for block, _, target in transfers if target == FREE]):
            return False
        self._put(transfers)
        return all([self._has_room(target) for _, _, target in transfers])

    def _open_pages(self, blocks):
        """Let the blocks leave the free ones, and return whether they are all blocks of unused pages."""
        for page, numbers in numbers_by_pages(blocks).items():
            many = len(numbers)
            if page in self._sizes or many not in self._machine.classes or numbers != list(range(many)):
                return False
            self._sizes[page] = many
        return True

    def _close_pages(self, blocks):
        """Let the blocks become free, and return whether all those do that left the free ones together."""
        for page, numbers in numbers_by_pages(blocks).items():
            # The numbers are ascending, and those of blocks that are not free.
            if len(numbers) != self._sizes[page]:
                return False
            del self._sizes[page]
        return True

    def _put(self, transfers):
        """Put the blocks from their sources to their targets."""
        for block, source, target in transfers:
            self._places[block] = target
            self._amounts[source] = self._amounts.get(source, 0) - 1
            self._amounts[target] = self._amounts.get(target, 0) + 1

    def _has_room(self, place):
        """Return whether the place does not have more blocks than it may have."""
        cached = self._machine.batch * len(self._machine.classes)
        most = {"slot": 1, "cache": cached, "batch": cached * self._machine.sockets}
        return place[0] not in most or self._amounts[place] <= most[place[0]]
