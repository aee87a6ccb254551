"""The form of a key: of what kinds its parts are, at any depth. The functions accept any value."""

from homefrees.integers import is_between
from homefrees.store import STORE

STATUSES = ("running", "ended", "stopped", "recovered")


def is_tuple_of(value, many):
    """Return whether the value is a tuple of so many items."""
    return isinstance(value, tuple) and len(value) == many


def is_block(machine, value):
    """Return whether the value is a block of a page of the machine, if this has the greatest of the classes."""
    if not is_tuple_of(value, 2):
        return False
    page, number = value
    return is_between(page, 0, machine.pages - 1) and is_between(number, 0, max(machine.classes) - 1)


def are_blocks(machine, value):
    """Return whether the value is a tuple of blocks."""
    return isinstance(value, tuple) and all([is_block(machine, block) for block in value])


def are_rows(machine, value, many):
    """Return whether the value is a tuple of so many tuples of blocks."""
    return is_tuple_of(value, many) and all([are_blocks(machine, row) for row in value])


def is_small_use(machine, value):
    """Return whether the value, a tuple, is what a small page is used for."""
    if len(value) != 4 or value[0] != "small":
        return False
    _, home, kind, free = value
    if not is_between(home, 0, machine.sockets - 1) or not is_between(kind, 0, len(machine.classes) - 1):
        return False
    return isinstance(free, tuple) and all([is_between(number, 0, machine.classes[kind] - 1) for number in free])


def is_use(machine, value):
    """Return whether the value is what a page is used for."""
    if not isinstance(value, tuple):
        return False
    if value == STORE or is_small_use(machine, value):
        return True
    if len(value) != 2:
        return False
    word, number = value
    # The number is a socket or a page.
    most = machine.sockets if word == "spare" else machine.pages
    return word in ("spare", "large") and is_between(number, 0, most - 1)


def is_held(machine, value):
    """Return whether the value is what a slot holds."""
    if value is None:
        return True
    if not isinstance(value, tuple):
        return False
    if value == ("failure",):
        return True
    if len(value) != 3:
        return False
    word, first, many = value
    if word == "block":
        return is_block(machine, (first, many))
    return word == "large" and is_between(first, 0, machine.pages - 1) and is_between(many, 1, machine.pages - first)


def is_thread_row(machine, value, number):
    """Return whether the value is what a state tells of the thread."""
    if not is_tuple_of(value, 6):
        return False
    status, at, phase, hand, caches, batches = value
    program = machine.threads[number][1]
    kinds = len(machine.classes)
    if status not in STATUSES or not is_between(at, 0, len(program)) or not isinstance(phase, str):
        return False
    if not are_blocks(machine, hand) or not are_rows(machine, caches, kinds):
        return False
    return is_tuple_of(batches, machine.sockets) and all([are_rows(machine, row, kinds) for row in batches])


def is_message(machine, value):
    """Return whether the value is a message."""
    if not is_tuple_of(value, 2):
        return False
    socket, blocks = value
    return is_between(socket, 0, machine.sockets - 1) and are_blocks(machine, blocks)


def has_form_of_key(machine, value):
    """Return whether the value has the form of the key of a state of the machine."""
    if not is_tuple_of(value, 5):
        return False
    uses, cells, crew, inboxes, post = value
    if not is_tuple_of(uses, machine.pages) or not all([is_use(machine, use) for use in uses]):
        return False
    if not is_tuple_of(cells, machine.slots) or not all([is_held(machine, held) for held in cells]):
        return False
    if not is_tuple_of(crew, len(machine.threads)) or not are_rows(machine, inboxes, machine.sockets):
        return False
    if not all([is_thread_row(machine, row, number) for number, row in enumerate(crew)]):
        return False
    return isinstance(post, tuple) and all([is_message(machine, message) for message in post])
