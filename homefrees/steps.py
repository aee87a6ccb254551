"""What the threads do: a function for each operation and phase.

Each one is given the machine, the board and the worker, changes these two, and returns the event.
"""

from homefrees.store import STORE, neighbours, page_to_fill_from, page_to_open
from homefrees.worker import first_filled


def go_on_with_hand(worker):
    """Go on behind a change of the hand: a drain is over as soon as the hand is empty."""
    worker.phase = "hand"
    if worker.operation()[0] == "drain" and not worker.hand:
        worker.complete()


def take_arrivals(machine, board, worker):
    """Take the arrivals of the socket into the hand."""
    if machine.fault == "take":
        worker.hand = board.inboxes[worker.socket]
        worker.phase = "clear"
        return ("read", len(worker.hand))
    worker.hand = board.empty_inbox(worker.socket)
    many = len(worker.hand)
    go_on_with_hand(worker)
    return ("take", many)


def clear_arrivals(machine, board, worker):
    """Empty the arrivals, of which the hand has a copy (the fault "take")."""
    many = len(board.empty_inbox(worker.socket))
    go_on_with_hand(worker)
    return ("clear", many)


def bring_hand_home(machine, board, worker):
    """Bring the first block of the hand home."""
    block = worker.hand[0]
    worker.hand = worker.hand[1:]
    word = board.bring_home(block, worker.socket)
    go_on_with_hand(worker)
    return (word, block)


def begin_alloc(machine, board, worker):
    """Put a block of the cache into the slot, or take the arrivals if there is none."""
    _, kind, slot = worker.operation()
    cache = worker.caches[kind]
    if not cache:
        return take_arrivals(machine, board, worker)
    block = cache[-1]
    worker.put_cache(kind, cache[:-1])
    board.put_cell(slot, ("block", *block))
    worker.complete()
    return ("hit", block)


def go_on_with_alloc(machine, board, worker):
    """Bring the first block of the hand home, or fill the cache if there is none."""
    if worker.hand:
        return bring_hand_home(machine, board, worker)
    _, kind, slot = worker.operation()
    page = page_to_fill_from(board.uses, kind, worker.socket)
    if page is not None:
        return fill_cache(machine, board, worker, page)
    page = page_to_open(board.uses, worker.socket)
    if page is None:
        return fail(board, worker, slot)
    board.open_page(page, kind, worker.socket)
    move_to_cache(board, worker, page, board.first_blocks(page))
    return ("open", page)


def fill_cache(machine, board, worker, page):
    """Fill the cache with the first blocks of the page."""
    blocks = board.first_blocks(page)
    if machine.fault == "fill":
        worker.hand = blocks
        worker.phase = "get"
        return ("look", page)
    move_to_cache(board, worker, page, blocks)
    return ("fill", page)


def get_blocks(machine, board, worker):
    """Make the blocks at which the thread has looked the cache (the fault "fill")."""
    blocks = worker.hand
    page = blocks[0][0]
    worker.hand = ()
    move_to_cache(board, worker, page, blocks)
    return ("fill", page)


def move_to_cache(board, worker, page, blocks):
    """Make the blocks of the page the cache, and begin the alloc again."""
    worker.put_cache(worker.operation()[1], blocks)
    if board.is_small(blocks[0]):
        board.take_out(page, blocks)
    worker.phase = "begin"


def fail(board, worker, slot):
    """Put the failure into the slot."""
    board.put_cell(slot, ("failure",))
    worker.complete()
    return ("fail",)


def begin_free(machine, board, worker):
    """Empty the slot, and free what was in it."""
    slot = worker.operation()[1]
    held = board.cells[slot]
    board.put_cell(slot, None)
    if held[0] == "block":
        return free_block(machine, board, worker, held[1:])
    worker.complete()
    if held[0] == "failure":
        return ("nothing",)
    _, first, many = held
    for page in range(first, first + many):
        board.put_use(page, STORE)
    return ("return", first, many)


def free_block(machine, board, worker, block):
    """Free a block that was in the slot."""
    if board.is_small(block) and board.home_of(block) != worker.socket:
        return put_into_batch(machine, board, worker, block)
    word = keep_or_bring_home(machine, board, worker, block)
    worker.complete()
    return (word, block)


def keep_or_bring_home(machine, board, worker, block):
    """Append the block to its cache if there is room, or else bring it home."""
    if board.is_small(block):
        kind = board.class_of(block)
        cache = worker.caches[kind]
        if len(cache) < machine.batch:
            worker.put_cache(kind, (*cache, block))
            return "keep"
    return board.bring_home(block, worker.socket)


def put_into_batch(machine, board, worker, block):
    """Append the block to the batch for its home and class."""
    home, kind = board.home_of(block), board.class_of(block)
    blocks = (*worker.batches[home][kind], block)
    worker.put_batch(home, kind, blocks)
    if len(blocks) >= machine.batch:
        worker.phase = "send"
    else:
        worker.complete()
    return ("batch", block)


def send_full_batch(machine, board, worker):
    """Send the batch that has become full; there is only one."""
    home, kind = worker.first_batch(machine.batch)
    event = send_batch(board, worker, home, kind)
    worker.complete()
    return event


def send_batch(board, worker, home, kind):
    """Send the batch as a message to the home."""
    blocks = worker.batches[home][kind]
    worker.put_batch(home, kind, ())
    board.send(home, blocks)
    return ("send", home, len(blocks))


def drop_batch(worker, home, kind):
    """Empty the batch and do not send it (the fault "batches")."""
    many = len(worker.batches[home][kind])
    worker.put_batch(home, kind, ())
    return ("drop", home, many)


def adopt_page(machine, board, worker):
    """Make the socket the home of the page of the block in the slot."""
    held = board.cells[worker.operation()[1]]
    worker.complete()
    if held[0] != "block" or not board.is_small(held[1:]):
        return ("nothing",)
    page = held[1]
    _, home, kind, free = board.uses[page]
    board.put_use(page, ("small", worker.socket, kind, free))
    return ("adopt", page, home)


def put_large(machine, board, worker):
    """Put a large block into the slot."""
    _, many, slot = worker.operation()
    first = neighbours(board.uses, many)
    if first is None:
        return fail(board, worker, slot)
    for page in range(first, first + many):
        board.put_use(page, ("large", first))
    board.put_cell(slot, ("large", first, many))
    worker.complete()
    return ("large", first, many)


def grow_large(machine, board, worker):
    """Make the large block in the slot one page longer."""
    slot = worker.operation()[1]
    held = board.cells[slot]
    worker.complete()
    if held[0] != "large":
        return ("nothing",)
    _, first, many = held
    page = first + many
    if page >= len(board.uses) or board.uses[page] != STORE:
        return ("nothing",)
    board.put_use(page, ("large", first))
    board.put_cell(slot, ("large", first, many + 1))
    return ("grow", first, many + 1)


def flush(machine, board, worker):
    """Bring the first block of the caches home, or send the first batch if there is none."""
    kind = first_filled(worker.caches)
    if kind is not None:
        block = worker.caches[kind][0]
        worker.put_cache(kind, worker.caches[kind][1:])
        event = (board.bring_home(block, worker.socket), block)
    else:
        home, kind = worker.first_batch(1)
        if machine.fault == "batches":
            event = drop_batch(worker, home, kind)
        else:
            event = send_batch(board, worker, home, kind)
    worker.end_if_empty()
    return event


# For each word of an operation and each phase, and for the end, which has no operation.
STEPS = {
    ("alloc", "begin"): begin_alloc,
    ("alloc", "clear"): clear_arrivals,
    ("alloc", "hand"): go_on_with_alloc,
    ("alloc", "get"): get_blocks,
    ("free", "begin"): begin_free,
    ("free", "send"): send_full_batch,
    ("adopt", "begin"): adopt_page,
    ("large", "begin"): put_large,
    ("grow", "begin"): grow_large,
    ("drain", "begin"): take_arrivals,
    ("drain", "clear"): clear_arrivals,
    ("drain", "hand"): bring_hand_home,
    ("", "flush"): flush,
}


def make_step(machine, board, worker):
    """Make the next step of the worker, which does not wait, and return the event."""
    operation = worker.operation()
    word = operation[0] if operation is not None else ""
    action = STEPS[(word, worker.phase)]
    return action(machine, board, worker)
