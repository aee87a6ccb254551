"""The texts of machines."""

from homefrees.errors import ParseError
from homefrees.integers import is_between, is_int
from homefrees.lines import read_row, text_of
from homefrees.machine import Machine
from homefrees.parameters import FAULTS, MOST_CLASSES, MOST_OPERATIONS
from homefrees.programs import is_operation

# The words of the lines at the head of a text, in their order.
HEAD = ("sockets", "classes", "pages", "batch", "spare", "slots", "stops")

MOST_REPEATS = 30
DEEPEST = 3


def machine_text(machine):
    """Return the text of a machine, without blocks."""
    rows = [
        ("sockets", machine.sockets),
        ("classes", *machine.classes),
        ("pages", machine.pages),
        ("batch", machine.batch),
        ("spare", machine.spare),
        ("slots", machine.slots),
        ("stops", machine.stops),
    ]
    if machine.fault is not None:
        rows.append(("fault", machine.fault))
    for socket, program in machine.threads:
        rows.append(("thread", socket))
        rows.extend(program)
    return text_of(rows)


class Crew:
    """The threads of a text, while its lines are read one after the other."""

    def __init__(self):
        self._found = []
        # The blocks that have no end yet, from the outermost one on, as (times, operations).
        self._repeats = []

    def read(self, row):
        """Read the row of a line, and return whether it can stand here."""
        if row[0] == "thread":
            return self._begin_thread(row)
        if not self._found:
            return False
        if row[0] == "repeat":
            return self._begin_repeat(row)
        if row[0] == "end":
            return self._end_repeat(row)
        if is_operation(row):
            self._innermost().append(row)
        return is_operation(row)

    def is_complete(self):
        """Return whether each block has its end."""
        return not self._repeats

    def all_threads(self):
        """Return the list of the threads."""
        return list(self._found)

    def _innermost(self):
        """Return the list of the operations to which those of a line belong."""
        return self._repeats[-1][1] if self._repeats else self._found[-1][1]

    def _begin_thread(self, row):
        """Begin a thread, behind all blocks of the one before."""
        if len(row) != 2 or not is_int(row[1]) or self._repeats:
            return False
        self._found.append((row[1], []))
        return True

    def _begin_repeat(self, row):
        """Begin a block."""
        if len(row) != 2 or not is_between(row[1], 0, MOST_REPEATS) or len(self._repeats) == DEEPEST:
            return False
        self._repeats.append((row[1], []))
        return True

    def _end_repeat(self, row):
        """End a block, which means its operations so many times."""
        if len(row) != 1 or not self._repeats:
            return False
        times, operations = self._repeats[-1]
        if times * len(operations) > MOST_OPERATIONS:
            return False
        self._repeats.pop()
        self._innermost().extend(operations * times)
        return True


def read_head(rows):
    """Return a dict with the list of the integers of each line at the head."""
    numbers = {}
    for index, word in enumerate(HEAD):
        # Behind the last row, its number is that of the rows plus 1.
        if index == len(rows):
            raise ParseError(index + 1)
        most = MOST_CLASSES if word == "classes" else 1
        found = rows[index][1:]
        if rows[index][0] != word or not is_between(len(found), 1, most) or None in found:
            raise ParseError(index + 1)
        numbers[word] = list(found)
    return numbers


def read_fault(line):
    """Return the word of the fault that the line tells, or None."""
    words = line.split(" ")
    return words[1] if len(words) == 2 and words[0] == "fault" and words[1] in FAULTS else None


def read_threads(rows, first):
    """Return the list of the threads that the rows tell from the one with this index on."""
    crew = Crew()
    for number, row in enumerate(rows[first:], start=first + 1):
        if not crew.read(row):
            raise ParseError(number)
    if not crew.is_complete():
        raise ParseError(len(rows) + 1)
    return crew.all_threads()


def parse_machine(text):
    """Return the machine with this text, which may have blocks."""
    if not isinstance(text, str):
        raise ParseError(None)
    lines = text.split("\n")
    rows = [read_row(line) for line in lines]
    numbers = read_head(rows)
    first = len(HEAD)
    fault = read_fault(lines[first]) if first < len(lines) else None
    if fault is not None:
        first += 1
    threads = read_threads(rows, first)
    single = {word: found[0] for word, found in numbers.items()}
    return Machine(
        single["sockets"], numbers["classes"], threads, pages=single["pages"], batch=single["batch"],
        spare=single["spare"], slots=single["slots"], stops=single["stops"], fault=fault,
    )
