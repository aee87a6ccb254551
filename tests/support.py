"""What several tests need: short ways to write runs, values of all kinds, and random machines."""

import random

from homefrees.errors import LimitExceeded
from homefrees.machine import Machine
from homefrees.search import Search
from homefrees.workbench import Workbench

# None of them is a list, a tuple, an integer or a string.
OTHERS = [None, True, False, b"", b"data", {}, {0: 0}, {"step": 0}, object(), int, len]

STRINGS = ["", "0", "step", "step 0", "word"]

WORDS = ("carry", "recover", "step", "stop", "sweep")


def moves_of(text):
    """Return the moves of a text such as "0 0 1 carry0 stop1", in which a number alone is a step."""
    moves = []
    for word in text.split():
        name = word.rstrip("0123456789")
        moves.append((name or "step", int(word[len(name):])))
    return moves


def events_of(machine, text):
    return [event for _, event in machine.run(moves_of(text))]


def state_behind(machine, text):
    return machine.after(moves_of(text))


def changed(machine, **parameters):
    """Return a machine with other values of some parameters."""
    names = ("sockets", "classes", "threads", "pages", "batch", "spare", "slots", "stops", "fault")
    values = {name: getattr(machine, name) for name in names}
    return Machine(**{**values, **parameters})


def scripted_threads(chooser, sockets, kinds, slots, most, length):
    """Return at most so many threads whose programs can be played to their end in at least one order.

    One script of so many operations is dealt out to the threads, which share the slots.
    """
    programs = [[] for _ in range(chooser.randint(1, most))]
    full = [False] * slots
    for _ in range(length):
        slot = chooser.randrange(slots)
        word = chooser.choice(["free", "free", "adopt", "grow"] if full[slot] else ["alloc", "alloc", "alloc", "large"])
        if chooser.random() < 0.1:
            word = "drain"
        operation = (word, slot)
        if word in ("alloc", "large"):
            operation = (word, chooser.randrange(kinds) if word == "alloc" else chooser.randint(1, 3), slot)
        if word in ("alloc", "large", "free"):
            full[slot] = not full[slot]
        program = chooser.choice(programs)
        if len(program) < 30:
            program.append(("drain",) if word == "drain" else operation)
    return [(chooser.randrange(sockets), program) for program in programs]


# The greatest values of what is chosen for a machine, and how many operations all threads have together.
LARGE = {"sockets": 4, "kinds": 3, "blocks": 4, "slots": 8, "threads": 6, "pages": 12, "batch": 3, "spare": 2}
LARGE_LENGTH = 60
# Such machines reach few states.
TINY = {"sockets": 2, "kinds": 2, "blocks": 3, "slots": 3, "threads": 3, "pages": 4, "batch": 2, "spare": 1}
TINY_LENGTH = 9


def random_machine(chooser, fault=None, most=LARGE, length=LARGE_LENGTH, stops=(0, 0, 1, 3)):
    sockets, kinds, slots = [chooser.randint(1, most[name]) for name in ("sockets", "kinds", "slots")]
    length = chooser.randint(0, length)
    threads = scripted_threads(chooser, sockets, kinds, slots, most["threads"], length)
    return Machine(
        sockets, [chooser.randint(1, most["blocks"]) for _ in range(kinds)], threads, slots=slots, fault=fault,
        pages=chooser.randint(1, most["pages"]), batch=chooser.randint(1, most["batch"]),
        spare=chooser.randint(0, most["spare"]), stops=chooser.choice(stops),
    )


def tiny_machine(chooser, fault=None):
    return random_machine(chooser, fault, TINY, TINY_LENGTH, (0, 0, 0, 1))


def tiny_searches(seed, amount, faults=(None,)):
    """Return tuples of a machine that reaches few states, and its search; the faults take turns."""
    chooser = random.Random(seed)
    found = []
    while len(found) < amount:
        machine = tiny_machine(chooser, faults[len(found) % len(faults)])
        try:
            found.append((machine, Search(machine)))
        except LimitExceeded:
            continue
    return found


def random_run(chooser, machine):
    """Return a run to a state without possible moves, in which stops are rare."""
    state = machine.start
    moves = []
    possible = machine.moves(state)
    while possible:
        others = [move for move in possible if move[0] != "stop"]
        move = chooser.choice(others if others and chooser.random() < 0.97 else possible)
        state = machine.step(state, move)[0]
        moves.append(move)
        possible = machine.moves(state)
    return moves


def random_runs(seed, amount, fault=None):
    """Return a list of tuples of a random machine and a run of it to its end."""
    chooser = random.Random(seed)
    machines = [random_machine(chooser, fault) for _ in range(amount)]
    return [(machine, random_run(chooser, machine)) for machine in machines]


def replaced_at(value, path, part):
    """Return the value, tuples and lists in each other, with another part at the place of these indexes."""
    if not path:
        return part
    items = list(value)
    items[path[0]] = replaced_at(items[path[0]], path[1:], part)
    return tuple(items) if isinstance(value, tuple) else items


def part_at(value, path):
    for index in path:
        value = value[index]
    return value


def paths_of(value, path=()):
    """Return the paths of all parts of the value, itself included, at any depth."""
    paths = [path]
    if isinstance(value, (list, tuple)):
        for index, item in enumerate(value):
            paths.extend(paths_of(item, (*path, index)))
    return paths


def values_of_other_kinds(part):
    """Return values that can never stand in the place of this part, which is a list, tuple, integer, string or None."""
    values = [b"word", {}, {0: 0}, object(), 10 ** 40, -1, len, [None], (None, None, None, None, None, None, None)]
    if part is not None:
        values.append(None)
    if isinstance(part, int):
        values.extend(["0", str(part), [part], (part,)])
        values.extend([True] if part == 1 else [False] if part == 0 else [])
    if isinstance(part, str):
        values.extend([part.encode(), part.upper(), part + " ", "", [part], (part,), list(part)])
    if isinstance(part, tuple):
        values.extend([list(part), (part,), [part], {item: True for item in range(len(part))}])
    if isinstance(part, list):
        values.extend([tuple(part), [part], (part,)])
    return values


class KeyMaker:
    """Makes a valid key of a machine without a fault that no run needs to reach."""

    def __init__(self, chooser, machine):
        self.chooser = chooser
        self.machine = machine
        kinds, sockets = len(machine.classes), machine.sockets
        self.uses = [("store",)] * machine.pages
        self.cells = [chooser.choice([None, ("failure",)]) for _ in range(machine.slots)]
        self.inboxes = [[] for _ in range(sockets)]
        self.post = []
        self.hands = [[] for _ in machine.threads]
        self.caches = [[[] for _ in range(kinds)] for _ in machine.threads]
        self.batches = [[[[] for _ in range(kinds)] for _ in range(sockets)] for _ in machine.threads]
        self.rows = self.chosen_rows()

    def chosen_rows(self):
        """Return [status, at, phase] for each thread."""
        rows = []
        stops = 0
        for _, program in self.machine.threads:
            status = self.chooser.choice(["running", "running", "running", "stopped", "recovered", "ended"])
            if status in ("stopped", "recovered"):
                status = status if stops < self.machine.stops else "running"
                stops += status != "running"
            at = len(program) if status == "ended" else self.chooser.randint(0, len(program))
            rows.append([status, at, self.chosen_phase(status, program[at:at + 1])])
        return rows

    def chosen_phase(self, status, rest):
        if status != "running":
            return "over"
        if not rest:
            return "flush"
        others = {"alloc": ["hand"], "drain": ["hand"], "free": ["send"]}
        return self.chooser.choice(["begin", *others.get(rest[0][0], [])])

    def put_large(self):
        """Put large blocks into some slots."""
        for slot in range(self.machine.slots):
            first = self.chooser.randrange(self.machine.pages)
            many = self.chooser.randint(1, min(3, self.machine.pages - first))
            if self.chooser.random() < 0.2 and self.uses[first:first + many] == [("store",)] * many:
                self.uses[first:first + many] = [("large", first)] * many
                self.cells[slot] = ("large", first, many)

    def rooms(self, kind):
        """Return the lists to which one more block of the class can be appended."""
        rooms = [*self.inboxes, *[blocks for _, blocks in self.post]]
        for number, (status, at, phase) in enumerate(self.rows):
            program = self.machine.threads[number][1]
            if status in ("recovered", "ended"):
                continue
            if status == "stopped" or phase == "hand":
                rooms.append(self.hands[number])
            is_cache_empty = phase == "hand" and program[at][0] == "alloc" and program[at][1] == kind
            if len(self.caches[number][kind]) < self.machine.batch and not is_cache_empty:
                rooms.append(self.caches[number][kind])
            most = self.machine.batch if status == "stopped" else self.machine.batch - 1
            rooms.extend([row[kind] for row in self.batches[number] if len(row[kind]) < most])
        return rooms

    def put_block(self, kind, block):
        """Put the block anywhere but into the list of its page."""
        free = [slot for slot, held in enumerate(self.cells) if held is None]
        choice = self.chooser.random()
        if choice < 0.3 and free:
            self.cells[self.chooser.choice(free)] = ("block", *block)
        elif choice < 0.4:
            self.post.append((self.chooser.randrange(self.machine.sockets), [block]))
        else:
            self.chooser.choice(self.rooms(kind)).append(block)

    def put_small(self):
        """Make some pages small or spare, and put their blocks somewhere."""
        for page in range(self.machine.pages):
            home = self.chooser.randrange(self.machine.sockets)
            if self.uses[page] != ("store",) or self.chooser.random() < 0.3:
                continue
            if self.chooser.random() < 0.2:
                if self.uses.count(("spare", home)) < self.machine.spare:
                    self.uses[page] = ("spare", home)
                continue
            kind = self.chooser.randrange(len(self.machine.classes))
            numbers = list(range(self.machine.classes[kind]))
            self.chooser.shuffle(numbers)
            away = self.chooser.randint(1, len(numbers))
            self.uses[page] = ("small", home, kind, tuple(numbers[away:]))
            for number in numbers[:away]:
                self.put_block(kind, (page, number))

    def fill_batch(self, number):
        """Make one batch of the thread as full as a batch can be, with blocks of arrivals, or return whether not."""
        kind = self.chooser.randrange(len(self.machine.classes))
        row = self.chooser.choice(self.batches[number])
        for blocks in self.inboxes:
            for block in list(blocks):
                if self.uses[block[0]][2] == kind and len(row[kind]) < self.machine.batch:
                    blocks.remove(block)
                    row[kind].append(block)
        if len(row[kind]) == self.machine.batch:
            return True
        self.inboxes[0].extend(row[kind])
        row[kind].clear()
        return False

    def settle(self):
        """Give those threads another phase that lack the blocks for theirs."""
        for number, row in enumerate(self.rows):
            _, at, phase = row
            has_none = not any(self.caches[number]) and not any(map(any, self.batches[number]))
            if phase == "flush" and has_none:
                row[:] = ["ended", at, "over"]
            if phase == "hand" and self.machine.threads[number][1][at] == ("drain",) and not self.hands[number]:
                row[2] = "begin"
            if phase == "send" and not self.fill_batch(number):
                row[2] = "begin"

    def key(self):
        self.put_large()
        self.put_small()
        self.settle()
        threads = [
            (*row, tuple(hand), tuple(map(tuple, caches)), tuple([tuple(map(tuple, part)) for part in batches]))
            for row, hand, caches, batches in zip(self.rows, self.hands, self.caches, self.batches)
        ]
        post = [(socket, tuple(blocks)) for socket, blocks in self.post]
        return (tuple(self.uses), tuple(self.cells), tuple(threads), tuple(map(tuple, self.inboxes)), tuple(post))


def random_keys(seed, amount):
    """Return a list of tuples of a random machine and a valid key of it."""
    chooser = random.Random(seed)
    machines = [random_machine(chooser) for _ in range(amount)]
    return [(machine, KeyMaker(chooser, machine).key()) for machine in machines]


def long_bench():
    """Return a workbench whose first possible moves are 1138 to the end.

    Because of the fault, all threads of a socket take the same arrivals: from each socket to the
    other one and back, there are three times as many blocks.
    """
    rounds = [("drain",), ("adopt", 7), ("drain",), ("adopt", 7)]
    threads = [
        (0, [("alloc", 0, slot) for slot in range(8)] + rounds), (0, rounds[::2]), (0, rounds[::2]),
        (1, [("free", slot) for slot in range(7)] + [("adopt", 7)] + rounds[:3]), (1, rounds[::2]), (1, rounds[::2]),
    ]
    bench = Workbench(Machine(2, [8], threads, slots=8, batch=7, fault="take"))
    play_until(bench, 0, 8)
    play_until(bench, 3, 8)
    for group in [(0, 1, 2), (3, 4, 5), (0, 1, 2)]:
        deliver_and_read(bench, group)
        for thread in group:
            play_until(bench, thread, bench.now.threads[thread][1] + 1)
        play_until(bench, group[0], bench.now.threads[group[0]][1] + 1)
    deliver_and_read(bench, (3, 4, 5))
    return bench


def play_until(bench, thread, at):
    """Let the thread step until it is at the operation with this index."""
    while bench.now.threads[thread][1] < at:
        bench.play(("step", thread))


def deliver_and_read(bench, group):
    """Deliver all messages, and let each thread of the group make a step."""
    while bench.now.flight:
        bench.play(("carry", 0))
    for thread in group:
        bench.play(("step", thread))
