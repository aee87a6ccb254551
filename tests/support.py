"""What several tests need: short ways to write runs, values of all kinds, and random machines."""

import random

from homefrees.errors import LimitExceeded
from homefrees.machine import Machine
from homefrees.search import Search

# None of them is a list, a tuple, an integer or a string.
OTHERS = [None, True, False, b"", b"data", {}, {0: 0}, {"step": 0}, object(), int, len]

STRINGS = ["", "0", "step", "step 0", "word"]

WORDS = ("carry", "recover", "step", "stop", "sweep")


def moves_of(text):
    """Return the moves of a text such as "0 0 1 carry0 stop1", in which a number alone is a step."""
    moves = []
    for word in text.split():
        name = word.rstrip("0123456789")
        moves.append((name or "step", int(word[len(name):])))
    return moves


def events_of(machine, text):
    return [event for _, event in machine.run(moves_of(text))]


def state_behind(machine, text):
    return machine.after(moves_of(text))


def changed(machine, **parameters):
    """Return a machine with other values of some parameters."""
    names = ("sockets", "classes", "threads", "pages", "batch", "spare", "slots", "stops", "fault")
    values = {name: getattr(machine, name) for name in names}
    return Machine(**{**values, **parameters})


def scripted_threads(chooser, sockets, kinds, slots, most, length):
    """Return at most so many threads whose programs can be played to their end in at least one order.

    One script of so many operations is dealt out to the threads, which share the slots.
    """
    programs = [[] for _ in range(chooser.randint(1, most))]
    full = [False] * slots
    for _ in range(length):
        slot = chooser.randrange(slots)
        word = chooser.choice(["free", "free", "adopt", "grow"] if full[slot] else ["alloc", "alloc", "alloc", "large"])
        if chooser.random() < 0.1:
            word = "drain"
        operation = (word, slot)
        if word in ("alloc", "large"):
            operation = (word, chooser.randrange(kinds) if word == "alloc" else chooser.randint(1, 3), slot)
        if word in ("alloc", "large", "free"):
            full[slot] = not full[slot]
        program = chooser.choice(programs)
        if len(program) < 30:
            program.append(("drain",) if word == "drain" else operation)
    return [(chooser.randrange(sockets), program) for program in programs]


# The greatest values of what is chosen for a machine, and how many operations all threads have together.
LARGE = {"sockets": 4, "kinds": 3, "blocks": 4, "slots": 8, "threads": 6, "pages": 12, "batch": 3, "spare": 2}
LARGE_LENGTH = 60
# Such machines reach few states.
TINY = {"sockets": 2, "kinds": 2, "blocks": 3, "slots": 3, "threads": 3, "pages": 4, "batch": 2, "spare": 1}
TINY_LENGTH = 9


def random_machine(chooser, fault=None, most=LARGE, length=LARGE_LENGTH, stops=(0, 0, 1, 3)):
    sockets, kinds, slots = [chooser.randint(1, most[name]) for name in ("sockets", "kinds", "slots")]
    length = chooser.randint(0, length)
    threads = scripted_threads(chooser, sockets, kinds, slots, most["threads"], length)
    return Machine(
        sockets, [chooser.randint(1, most["blocks"]) for _ in range(kinds)], threads, slots=slots, fault=fault,
        pages=chooser.randint(1, most["pages"]), batch=chooser.randint(1, most["batch"]),
        spare=chooser.randint(0, most["spare"]), stops=chooser.choice(stops),
    )


def tiny_machine(chooser, fault=None):
    return random_machine(chooser, fault, TINY, TINY_LENGTH, (0, 0, 0, 1))


def tiny_searches(seed, amount, faults=(None,)):
    """Return tuples of a machine that reaches few states, and its search; the faults take turns."""
    chooser = random.Random(seed)
    found = []
    while len(found) < amount:
        machine = tiny_machine(chooser, faults[len(found) % len(faults)])
        try:
            found.append((machine, Search(machine)))
        except LimitExceeded:
            continue
    return found


def random_run(chooser, machine):
    """Return a run to a state without possible moves, in which stops are rare."""
    state = machine.start
    moves = []
    possible = machine.moves(state)
    while possible:
        others = [move for move in possible if move[0] != "stop"]
        move = chooser.choice(others if others and chooser.random() < 0.97 else possible)
        state = machine.step(state, move)[0]
        moves.append(move)
        possible = machine.moves(state)
    return moves


def random_runs(seed, amount, fault=None):
    """Return a list of tuples of a random machine and a run of it to its end."""
    chooser = random.Random(seed)
    machines = [random_machine(chooser, fault) for _ in range(amount)]
    return [(machine, random_run(chooser, machine)) for machine in machines]
