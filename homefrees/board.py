"""A state while a move changes it."""

from homefrees.state import State
from homefrees.store import STORE, spares_of


def replaced(row, at, value):
    """Return the tuple with this value in the place of the item at the index."""
    return (*row[:at], value, *row[at + 1:])


class Board:
    """The parts of a state, which a move replaces one after the other.

    They are uses (of the pages), cells (the slots), crew (the threads), inboxes (the arrivals)
    and post (the flight), all of the form that they have in a state.
    """

    def __init__(self, machine, state):
        self._machine = machine
        self.uses = state.pages
        self.cells = state.slots
        self.crew = state.threads
        self.inboxes = state.arrivals
        self.post = state.flight

    def finished(self):
        """Return the state to which the move leads."""
        return State(self.uses, self.cells, self.crew, self.inboxes, self.post)

    def put_use(self, page, use):
        """Use the page for something else."""
        self.uses = replaced(self.uses, page, use)

    def put_cell(self, slot, held):
        """Put something into the slot, or empty it with None."""
        self.cells = replaced(self.cells, slot, held)

    def put_thread(self, number, row):
        """Give the thread another row."""
        self.crew = replaced(self.crew, number, row)

    def empty_inbox(self, socket):
        """Empty the arrivals of the socket, and return their blocks."""
        blocks = self.inboxes[socket]
        self.inboxes = replaced(self.inboxes, socket, ())
        return blocks

    def deliver(self, socket, blocks):
        """Append the blocks to the arrivals of the socket."""
        self.inboxes = replaced(self.inboxes, socket, self.inboxes[socket] + blocks)

    def send(self, socket, blocks):
        """Send the blocks as a message to the socket."""
        self.post = (*self.post, (socket, blocks))

    def is_small(self, block):
        """Return whether the page of the block is a small page."""
        return self.uses[block[0]][0] == "small"

    def home_of(self, block):
        """Return the home of the block's page, which is a small page."""
        return self.uses[block[0]][1]

    def class_of(self, block):
        """Return the class of the block's page, which is a small page."""
        return self.uses[block[0]][2]

    def open_page(self, page, kind, home):
        """Make the page a small page with all its blocks."""
        numbers = tuple(range(self._machine.classes[kind]))
        self.put_use(page, ("small", home, kind, numbers))

    def first_blocks(self, page):
        """Return the first blocks in the list of the small page, as many as a cache may have."""
        return tuple([(page, number) for number in self.uses[page][3][:self._machine.batch]])

    def take_out(self, page, blocks):
        """Remove the blocks from the list of the small page, as far as they are there."""
        _, home, kind, free = self.uses[page]
        numbers = list(free)
        for _, number in blocks:
            if number in numbers:
                numbers.remove(number)
        self.put_use(page, ("small", home, kind, tuple(numbers)))

    def put_back(self, block):
        """Append the block to the list of its page, which is a small page."""
        page, number = block
        _, home, kind, free = self.uses[page]
        numbers = (*free, number)
        self.put_use(page, ("small", home, kind, numbers))
        # With a fault a block may be in the list twice, so its length does not tell that it is full.
        if all([wanted in numbers for wanted in range(self._machine.classes[kind])]):
            self.close_page(page, home)

    def close_page(self, page, home):
        """Make the page a spare page of its home, or give it to the store if there are enough."""
        is_spare = spares_of(self.uses, home) < self._machine.spare
        self.put_use(page, ("spare", home) if is_spare else STORE)

    def bring_home(self, block, socket):
        """Bring the block home as a thread of the socket does, and return the word of the event."""
        if not self.is_small(block):
            return "vanish"
        home = self.home_of(block)
        if home == socket:
            self.put_back(block)
            return "home"
        self.send(home, (block,))
        return "pass"
