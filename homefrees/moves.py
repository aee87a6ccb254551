"""Which moves are possible, and what they do."""

from homefrees.board import Board
from homefrees.runs import WORDS, is_move
from homefrees.steps import make_step
from homefrees.store import page_to_fill_from, page_to_open
from homefrees.worker import Worker


def waits(machine, state, number):
    """Return whether the running thread waits for its slot."""
    worker = Worker(machine, state, number)
    operation = worker.operation()
    if operation is None or operation[0] == "drain":
        return False
    is_empty = state.slots[operation[-1]] is None
    if operation[0] == "large":
        return not is_empty
    if operation[0] == "alloc":
        return not is_empty and needs_slot(state, worker)
    return is_empty and worker.phase == "begin"


def needs_slot(state, worker):
    """Return whether the next step of the worker's alloc puts something into the slot."""
    _, kind, _ = worker.operation()
    if worker.phase == "begin":
        return len(worker.caches[kind]) > 0
    # Behind the hand, only the failure is put there.
    if worker.phase != "hand" or worker.hand:
        return False
    if page_to_fill_from(state.pages, kind, worker.socket) is not None:
        return False
    return page_to_open(state.pages, worker.socket) is None


def may_carry(machine, state, message):
    """Return whether there is this message."""
    return message < len(state.flight)


def may_recover(machine, state, number):
    """Return whether there is this thread, and it is stopped."""
    return number < len(state.threads) and state.threads[number][0] == "stopped"


def may_step(machine, state, number):
    """Return whether there is this thread, and it can step."""
    if number >= len(state.threads) or state.threads[number][0] != "running":
        return False
    return not waits(machine, state, number)


def stops_so_far(state):
    """Return how many threads were stopped."""
    # A thread that was recovered was stopped before.
    return len([row for row in state.threads if row[0] in ("stopped", "recovered")])


def may_stop(machine, state, number):
    """Return whether there is this thread, and it may be stopped."""
    if number >= len(state.threads) or state.threads[number][0] != "running":
        return False
    return stops_so_far(state) < machine.stops


def may_sweep(machine, state, socket):
    """Return whether there is this socket, and it has arrivals and no running thread."""
    if socket >= machine.sockets or not state.arrivals[socket]:
        return False
    rows = list(zip(machine.threads, state.threads))
    return not any([thread[0] == socket and row[0] == "running" for thread, row in rows])


def carry(machine, state, message):
    """Append the blocks of the message to the arrivals of its socket."""
    board = Board(machine, state)
    socket, blocks = board.post[message]
    board.post = (*board.post[:message], *board.post[message + 1:])
    board.deliver(socket, blocks)
    return (board.finished(), ("carry", socket, len(blocks)))


def recover(machine, state, number):
    """Append all blocks of the stopped thread to the arrivals of their homes."""
    board = Board(machine, state)
    worker = Worker(machine, state, number)
    blocks = worker.all_blocks()
    for block in blocks:
        # Only with a fault there is a block whose page is no small page any more.
        if board.is_small(block):
            board.deliver(board.home_of(block), (block,))
    worker.drop_all()
    worker.status = "recovered"
    board.put_thread(number, worker.thread_row())
    return (board.finished(), ("recover", len(blocks)))


def step(machine, state, number):
    """Let the thread make its next step."""
    board = Board(machine, state)
    worker = Worker(machine, state, number)
    event = make_step(machine, board, worker)
    board.put_thread(number, worker.thread_row())
    return (board.finished(), event)


def stop(machine, state, number):
    """Stop the thread, which keeps its blocks."""
    board = Board(machine, state)
    worker = Worker(machine, state, number)
    worker.status = "stopped"
    worker.phase = "over"
    board.put_thread(number, worker.thread_row())
    return (board.finished(), ("stop", number))


def sweep(machine, state, socket):
    """Bring all arrivals of the socket home."""
    board = Board(machine, state)
    blocks = board.empty_inbox(socket)
    for block in blocks:
        board.bring_home(block, socket)
    return (board.finished(), ("sweep", len(blocks)))


TESTS = {
    "carry": may_carry,
    "recover": may_recover,
    "step": may_step,
    "stop": may_stop,
    "sweep": may_sweep,
}

ACTIONS = {
    "carry": carry,
    "recover": recover,
    "step": step,
    "stop": stop,
    "sweep": sweep,
}


def is_possible(machine, state, move):
    """Return whether the move is possible; accepts any value as move."""
    if not is_move(move):
        return False
    word, number = move
    test = TESTS[word]
    return test(machine, state, number)


def possible_moves(machine, state):
    """Return the sorted list of the possible moves."""
    threads = len(state.threads)
    amounts = {
        "carry": len(state.flight),
        "recover": threads,
        "step": threads,
        "stop": threads,
        "sweep": machine.sockets,
    }
    moves = [(word, number) for word in WORDS for number in range(amounts[word])]
    return [move for move in moves if is_possible(machine, state, move)]


def played(machine, state, move):
    """Return the tuple (state, event) of a possible move."""
    word, number = move
    action = ACTIONS[word]
    return action(machine, state, number)
