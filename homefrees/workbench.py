"""A workbench, on which moves are played, taken back and played again."""

from homefrees.errors import InvalidNumber, LimitExceeded, NothingToUndo
from homefrees.integers import is_between, is_int
from homefrees.moves import played, possible_moves

MOST_MOVES = 100000


def check_amount(amount, rows):
    """Raise an error unless the amount is that of some of the rows; accepts any value as amount."""
    if not is_int(amount) or amount < 1:
        raise InvalidNumber(amount)
    if amount > len(rows):
        raise NothingToUndo(amount)


class Workbench:
    """A machine, the moves that are played, and those that are taken back."""

    def __init__(self, machine):
        self._machine = machine
        # Rows (move, state, event). The move that was taken back last is the last one there.
        self._done = []
        self._undone = []

    @property
    def machine(self):
        """The machine."""
        return self._machine

    @property
    def now(self):
        """The current state."""
        return self._done[-1][1] if self._done else self._machine.start

    def play(self, move):
        """Play a move, and return its event; accepts any value as move."""
        state, event = self._machine.step(self.now, move)
        self._done.append((move, state, event))
        self._undone = []
        return event

    def finish(self, limit=1000):
        """Play the first possible move again and again until there is none, and return the number of moves."""
        if not is_between(limit, 0, MOST_MOVES):
            raise InvalidNumber(limit)
        rows = self._rows_to_the_end(limit)
        if rows:
            self._done.extend(rows)
            self._undone = []
        return len(rows)

    def undo(self, amount=1):
        """Take back the latest moves."""
        check_amount(amount, self._done)
        for _ in range(amount):
            self._undone.append(self._done.pop())

    def redo(self, amount=1):
        """Play those moves again that were taken back last."""
        check_amount(amount, self._undone)
        for _ in range(amount):
            self._done.append(self._undone.pop())

    def moves(self):
        """Return the list of the moves that are played."""
        return [move for move, _, _ in self._done]

    def events(self):
        """Return the list of the events of the moves that are played."""
        return [event for _, _, event in self._done]

    def clone(self):
        """Return an independent copy, also of what was taken back."""
        bench = Workbench(self._machine)
        bench._done = list(self._done)
        bench._undone = list(self._undone)
        return bench

    def _rows_to_the_end(self, limit):
        """Return the rows of the moves to the end, each time the first one, if they are not more than the limit."""
        state = self.now
        rows = []
        possible = possible_moves(self._machine, state)
        while possible:
            if len(rows) == limit:
                raise LimitExceeded(limit)
            state, event = played(self._machine, state, possible[0])
            rows.append((possible[0], state, event))
            possible = possible_moves(self._machine, state)
        return rows

    def __eq__(self, other):
        if not isinstance(other, Workbench) or self._machine != other._machine:
            return False
        return [row[0] for row in self._done] == [row[0] for row in other._done]

    def __len__(self):
        return len(self._done)
