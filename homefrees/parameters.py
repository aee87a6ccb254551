"""What the parameters of a machine may be."""

from homefrees.integers import is_between
from homefrees.programs import is_operation

FAULTS = (None, "take", "fill", "batches")

MOST_CLASSES = 3
MOST_THREADS = 6
MOST_OPERATIONS = 30

# The least and the greatest value of each parameter that is an integer.
LIMITS = {
    "sockets": (1, 4),
    "pages": (1, 64),
    "batch": (1, 8),
    "spare": (0, 8),
    "slots": (1, 8),
    "stops": (0, 6),
}


def is_within(name, value):
    """Return whether the value is an integer that the parameter with this name may be."""
    low, high = LIMITS[name]
    return is_between(value, low, high)


def are_classes(value):
    """Return whether the value is a list or tuple of the numbers of blocks of each class."""
    if not isinstance(value, (list, tuple)) or not is_between(len(value), 1, MOST_CLASSES):
        return False
    return all([is_between(blocks, 1, 8) for blocks in value])


def is_operation_of(value, kinds, slots):
    """Return whether the value is an operation for so many classes and slots."""
    if not is_operation(value):
        return False
    if value[0] == "alloc" and value[1] >= kinds:
        return False
    return value[0] == "drain" or value[-1] < slots


def is_thread(value, sockets, kinds, slots):
    """Return whether the value is a thread for so many sockets, classes and slots."""
    if not isinstance(value, tuple) or len(value) != 2:
        return False
    socket, program = value
    if not is_between(socket, 0, sockets - 1) or not isinstance(program, (list, tuple)):
        return False
    if len(program) > MOST_OPERATIONS:
        return False
    return all([is_operation_of(operation, kinds, slots) for operation in program])


def are_threads(value, sockets, kinds, slots):
    """Return whether the value is a list or tuple of threads for so many sockets, classes and slots."""
    if not isinstance(value, (list, tuple)) or not is_between(len(value), 1, MOST_THREADS):
        return False
    return all([is_thread(thread, sockets, kinds, slots) for thread in value])


def wrong_parameter(sockets, classes, threads, pages, batch, spare, slots, stops, fault):
    """Return the name of the leftmost parameter that is not of its form, or None."""
    if not is_within("sockets", sockets):
        return "sockets"
    if not are_classes(classes):
        return "classes"
    # A number of slots that is wrong itself does not make the threads wrong.
    room = slots if is_within("slots", slots) else LIMITS["slots"][1]
    if not are_threads(threads, sockets, len(classes), room):
        return "threads"
    numbers = {"pages": pages, "batch": batch, "spare": spare, "slots": slots, "stops": stops}
    for name, value in numbers.items():
        if not is_within(name, value):
            return name
    return None if fault in FAULTS else "fault"
