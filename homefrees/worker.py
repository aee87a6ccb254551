"""A thread while it makes a step."""

from homefrees.board import replaced


def first_filled(rows):
    """Return the index of the first of the tuples that is not empty, or None."""
    for index, row in enumerate(rows):
        if row:
            return index
    return None


class Worker:
    """The parts of a running thread, which a step replaces one after the other."""

    def __init__(self, machine, state, number):
        self.socket, self.program = machine.threads[number]
        self.status, self.at, self.phase, self.hand, self.caches, self.batches = state.threads[number]

    def thread_row(self):
        """Return what a state tells of the thread."""
        return (self.status, self.at, self.phase, self.hand, self.caches, self.batches)

    def operation(self):
        """Return the operation at which the thread is, or None behind the last one."""
        return self.program[self.at] if self.at < len(self.program) else None

    def put_cache(self, kind, blocks):
        """Make the blocks the cache of the class."""
        self.caches = replaced(self.caches, kind, blocks)

    def put_batch(self, home, kind, blocks):
        """Make the blocks the batch for the home and the class."""
        self.batches = replaced(self.batches, home, replaced(self.batches[home], kind, blocks))

    def first_batch(self, least):
        """Return (home, class) of the first batch, by these, with at least so many blocks, or None."""
        for home, row in enumerate(self.batches):
            for kind, blocks in enumerate(row):
                if len(blocks) >= least:
                    return (home, kind)
        return None

    def all_blocks(self):
        """Return the blocks of the hand, of the caches and of the batches, in this order."""
        blocks = list(self.hand)
        for row in (self.caches, *self.batches):
            for part in row:
                blocks.extend(part)
        return blocks

    def drop_all(self):
        """Keep no block."""
        self.hand = ()
        self.caches = ((),) * len(self.caches)
        self.batches = (self.caches,) * len(self.batches)

    def complete(self):
        """Go on behind the operation, which is over."""
        self.at += 1
        self.phase = "begin" if self.at < len(self.program) else "flush"
        self.end_if_empty()

    def end_if_empty(self):
        """End the thread if it is behind its last operation and has no blocks left."""
        if self.phase == "flush" and first_filled(self.caches) is None and self.first_batch(1) is None:
            self.status = "ended"
            self.phase = "over"
