"""All states that a machine can reach, and how far they are from the ends."""

from homefrees.errors import InvalidNumber, InvalidState, LimitExceeded
from homefrees.integers import is_between
from homefrees.loads import held
from homefrees.moves import played, possible_moves
from homefrees.places import all_places, is_bad
from homefrees.runs import states_along
from homefrees.same import are_same
from homefrees.state import State


MEASURES = ("held", "flight", "away")


def measured(measure, state):
    """Return the value of one of the measures in a state."""
    if measure == "held":
        return held(state)
    if measure == "flight":
        return len(state.flight)
    # All other places of blocks are caches, batches, hands, arrivals and messages.
    return len([place for _, place in all_places(state) if place[0] not in ("page", "slot")])


def origins_of(followers):
    """Return for each state the numbers of the states before it, once for each move between them."""
    origins = [[] for _ in followers]
    for number, row in enumerate(followers):
        for follower in row:
            origins[follower].append(number)
    return origins


def rank_before(ranks_behind):
    """Return the rank of a state, given those of the states to which its moves lead."""
    if not ranks_behind:
        return (0, 0)
    return (1 + min([least for least, _ in ranks_behind]), 1 + max([most for _, most in ranks_behind]))


def ends_first(followers):
    """Return the numbers of the states, each one behind those of the states to which its moves lead."""
    origins = origins_of(followers)
    # Every run ends, so that each state is ready at last.
    open_moves = [len(row) for row in followers]
    ready = [number for number, many in enumerate(open_moves) if many == 0]
    found = []
    while ready:
        number = ready.pop()
        found.append(number)
        for origin in origins[number]:
            open_moves[origin] -= 1
            if open_moves[origin] == 0:
                ready.append(origin)
    return found


def all_ranks(search):
    """Return the list of the ranks of the states of a search."""
    followers = search.followers()
    found = [None] * len(followers)
    for number in ends_first(followers):
        found[number] = rank_before([found[follower] for follower in followers[number]])
    return found


def ranks(search):
    """Return the list of the ranks of the states, in the order of discovery."""
    return all_ranks(search)


def check_ranks(search, ranks):
    """Return whether the value is the list of the ranks of the states; accepts any value."""
    return are_same(ranks, all_ranks(search))


def replayed(machine, moves, ranks):
    """Return the list of the ranks along a run, read from the list of the ranks of all states."""
    states = states_along(machine, moves)
    search = Search(machine)
    found = []
    for state in states:
        number = search.number_of(state)
        if number is None or number >= len(ranks):
            raise InvalidState(state)
        found.append(ranks[number])
    return found


class Search:
    """The reachable states of a machine, in the order in which a search finds them breadth first."""

    def __init__(self, machine, *, limit=2000):
        if not is_between(limit, 1, 20000):
            raise InvalidNumber(limit)
        self._machine = machine
        self._states = [machine.start]
        self._numbers = {machine.start.key: 0}
        # For each state (number of the state before, move), and the numbers of those behind it.
        self._origins = [None]
        self._followers = []
        while len(self._followers) < len(self._states):
            self._visit(len(self._followers), limit)

    def _visit(self, number, limit):
        """Find the states to which the moves of a state lead."""
        state = self._states[number]
        row = []
        for move in possible_moves(self._machine, state):
            follower = played(self._machine, state, move)[0]
            if follower.key not in self._numbers:
                if len(self._states) == limit:
                    raise LimitExceeded(limit)
                self._numbers[follower.key] = len(self._states)
                self._states.append(follower)
                self._origins.append((number, move))
            row.append(self._numbers[follower.key])
        self._followers.append(row)

    def _run_to_number(self, number):
        """Return the moves by which the state with this number was discovered."""
        moves = []
        while number > 0:
            number, move = self._origins[number]
            moves.append(move)
        moves.reverse()
        return moves

    @property
    def total(self):
        """The number of the states."""
        return len(self._states)

    def states(self):
        """Return the list of the states, in the order of discovery."""
        return list(self._states)

    def followers(self):
        """Return for each state the list of the numbers of those to which its moves lead."""
        return [list(row) for row in self._followers]

    def number_of(self, state):
        """Return the number of the state in the order of discovery, or None; accepts any value."""
        return self._numbers.get(state.key) if isinstance(state, State) else None

    def ends(self):
        """Return the list of the states without possible moves."""
        return [state for state, row in zip(self._states, self._followers) if not row]

    def stuck(self):
        """Return the list of the states without possible moves in which a thread is running."""
        return [state for state in self.ends() if any([row[0] == "running" for row in state.threads])]

    def run_to(self, state):
        """Return the moves by which the state was discovered; accepts any value."""
        number = self.number_of(state)
        if number is None:
            raise InvalidState(state)
        return self._run_to_number(number)

    def greatest(self, measure):
        """Return the greatest value of a measure, and the run to the first state that has it."""
        if measure not in MEASURES:
            raise InvalidNumber(measure)
        numbers = [measured(measure, state) for state in self._states]
        most = max(numbers)
        return (most, self._run_to_number(numbers.index(most)))

    def bad_run(self):
        """Return the run to the first bad state, or None."""
        for number, state in enumerate(self._states):
            if is_bad(self._machine, state):
                return self._run_to_number(number)
        return None
