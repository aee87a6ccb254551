"""The states of a machine."""


class State:
    """What a machine is at one moment; it never changes.

    The parameters are the parts of the key. They are tuples, and hold nothing but tuples,
    integers, strings and None at any depth, so that they can be kept without a copy.
    """

    def __init__(self, pages, slots, threads, arrivals, flight):
        self._pages = pages
        self._slots = slots
        self._threads = threads
        self._arrivals = arrivals
        self._flight = flight
        self._key = (pages, slots, threads, arrivals, flight)

    @property
    def pages(self):
        """For each page what it is used for."""
        return self._pages

    @property
    def slots(self):
        """For each slot what it holds."""
        return self._slots

    @property
    def threads(self):
        """For each thread (status, at, phase, hand, caches, batches)."""
        return self._threads

    @property
    def arrivals(self):
        """For each socket the blocks that have arrived."""
        return self._arrivals

    @property
    def flight(self):
        """The messages that are not delivered, as (socket, blocks)."""
        return self._flight

    @property
    def key(self):
        """The tuple of the five parts, by which states are compared."""
        return self._key

    def __eq__(self, other):
        return isinstance(other, State) and self._key == other._key
