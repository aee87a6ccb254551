"""The machine of threads that allocate and free blocks."""

from homefrees.errors import InvalidMachine, InvalidMove, InvalidRun
from homefrees.moves import is_possible, played, possible_moves
from homefrees.parameters import wrong_parameter
from homefrees.state import State
from homefrees.store import STORE


def copied_threads(threads):
    """Return the threads as tuples; their operations are tuples already."""
    return tuple([(socket, tuple(program)) for socket, program in threads])


def first_thread(program, sockets, kinds):
    """Return what the first state tells of a thread with this program."""
    caches = ((),) * kinds
    batches = (caches,) * sockets
    if len(program) == 0:
        return ("ended", 0, "over", (), caches, batches)
    return ("running", 0, "begin", (), caches, batches)


def first_state(machine):
    """Return the state in which everything is in the store and nothing has been done."""
    kinds = len(machine.classes)
    threads = [first_thread(program, machine.sockets, kinds) for _, program in machine.threads]
    pages = (STORE,) * machine.pages
    slots = (None,) * machine.slots
    arrivals = ((),) * machine.sockets
    return State(pages, slots, tuple(threads), arrivals, ())


class Machine:
    """Sockets, classes, threads and a store of pages; it never changes."""

    def __init__(self, sockets, classes, threads, *, pages=4, batch=1, spare=0, slots=2, stops=0, fault=None):
        name = wrong_parameter(sockets, classes, threads, pages, batch, spare, slots, stops, fault)
        if name is not None:
            raise InvalidMachine(name)
        self._sockets = sockets
        self._classes = tuple(classes)
        self._threads = copied_threads(threads)
        self._pages = pages
        self._batch = batch
        self._spare = spare
        self._slots = slots
        self._stops = stops
        self._fault = fault
        numbers = (pages, batch, spare, slots, stops)
        self._all = (sockets, self._classes, self._threads, numbers, fault)
        self._start = first_state(self)

    @property
    def sockets(self):
        """The number of the sockets."""
        return self._sockets

    @property
    def classes(self):
        """For each class the number of the blocks of a page."""
        return self._classes

    @property
    def threads(self):
        """For each thread (socket, program)."""
        return self._threads

    @property
    def pages(self):
        """The number of the pages of the store."""
        return self._pages

    @property
    def batch(self):
        """The greatest number of blocks in a cache, and in a batch."""
        return self._batch

    @property
    def spare(self):
        """The greatest number of spare pages of a socket."""
        return self._spare

    @property
    def slots(self):
        """The number of the slots."""
        return self._slots

    @property
    def stops(self):
        """How many threads may be stopped."""
        return self._stops

    @property
    def fault(self):
        """The word of the fault, or None."""
        return self._fault

    @property
    def start(self):
        """The first state."""
        return self._start

    def moves(self, state):
        """Return the sorted list of the possible moves."""
        return possible_moves(self, state)

    def step(self, state, move):
        """Return the tuple (state, event) of a move; accepts any value as move."""
        if not is_possible(self, state, move):
            raise InvalidMove(move)
        return played(self, state, move)

    def after(self, moves):
        """Return the state after a list or tuple of moves from the start."""
        rows = self.run(moves)
        return rows[-1][0] if rows else self._start

    def run(self, moves):
        """Return the list of the tuples (state, event) of a list or tuple of moves from the start."""
        if not isinstance(moves, (list, tuple)):
            raise InvalidRun(None)
        state = self._start
        rows = []
        for index, move in enumerate(moves):
            if not is_possible(self, state, move):
                raise InvalidRun(index)
            state, event = played(self, state, move)
            rows.append((state, event))
        return rows

    def __eq__(self, other):
        return isinstance(other, Machine) and self._all == other._all
