"""The valid keys of states, which need not be reachable."""

from homefrees.errors import InvalidState
from homefrees.forms import has_form_of_key
from homefrees.moves import played, possible_moves, stops_so_far
from homefrees.places import is_good
from homefrees.state import State
from homefrees.store import spares_of
from homefrees.worker import Worker


def are_large_right(state):
    """Return whether the large blocks in the slots have their pages, each its own, and no other pages are large."""
    wanted = {}
    for held in state.slots:
        if held is not None and held[0] == "large":
            _, first, many = held
            for page in range(first, first + many):
                if page in wanted:
                    return False
                wanted[page] = first
    found = {page: use[1] for page, use in enumerate(state.pages) if use[0] == "large"}
    return found == wanted


def are_pages_right(machine, state):
    """Return whether no list has all blocks, no socket too many spare pages, and large blocks have their pages."""
    for use in state.pages:
        if use[0] == "small" and len(use[3]) == machine.classes[use[2]]:
            return False
    if any([spares_of(state.pages, socket) > machine.spare for socket in range(machine.sockets)]):
        return False
    return are_large_right(state)


def are_caches_right(machine, state, rows):
    """Return whether the caches, or the batches for one home, have blocks of their classes, and not too many."""
    for kind, blocks in enumerate(rows):
        if len(blocks) > machine.batch:
            return False
        if any([state.pages[page][2] != kind for page, _ in blocks]):
            return False
    return True


def full_batches(machine, worker):
    """Return how many batches of the worker have as many blocks as a batch may have."""
    return len([blocks for row in worker.batches for blocks in row if len(blocks) == machine.batch])


def is_running_right(machine, worker):
    """Return whether the worker, which is running, is in a phase that fits to what it has."""
    if full_batches(machine, worker) != (1 if worker.phase == "send" else 0):
        return False
    operation = worker.operation()
    if worker.phase == "hand":
        if operation is not None and operation[0] == "alloc":
            return not worker.caches[operation[1]]
        return operation == ("drain",) and len(worker.hand) > 0
    if worker.hand:
        return False
    if operation is None:
        return worker.phase == "flush" and len(worker.all_blocks()) > 0
    return worker.phase == "begin" or (worker.phase == "send" and operation[0] == "free")


def is_thread_right(machine, state, number):
    """Return whether the thread has a phase and blocks that fit together."""
    worker = Worker(machine, state, number)
    if not all([are_caches_right(machine, state, rows) for rows in (worker.caches, *worker.batches)]):
        return False
    if worker.status == "running":
        return is_running_right(machine, worker)
    if worker.status == "ended" and worker.operation() is not None:
        return False
    return worker.phase == "over" and (worker.status == "stopped" or not worker.all_blocks())


def is_key(machine, value):
    """Return whether the value is a valid key; accepts any value."""
    if machine.fault is not None or not has_form_of_key(machine, value):
        return False
    state = State(*value)
    if not is_good(machine, state) or not are_pages_right(machine, state):
        return False
    if not all([is_thread_right(machine, state, number) for number in range(len(state.threads))]):
        return False
    return stops_so_far(state) <= machine.stops and all([len(blocks) > 0 for _, blocks in state.flight])


def state_of(machine, value):
    """Return the state with this key; accepts any value."""
    if not is_key(machine, value):
        raise InvalidState(value)
    return State(*value)


def is_closed_at(machine, state, known):
    """Return whether each move from the state leads to one whose key is known."""
    for move in possible_moves(machine, state):
        if played(machine, state, move)[0].key not in known:
            return False
    return True


def check_closed(machine, keys):
    """Return whether the value is a list of all keys that one can reach from any of them and from the start."""
    if not isinstance(keys, list):
        return False
    known = {}
    for key in keys:
        if not is_key(machine, key) or key in known:
            return False
        known[key] = True
    if machine.start.key not in known:
        return False
    for key in keys:
        if not is_closed_at(machine, State(*key), known):
            return False
    return True
