"""The errors of Homefrees. Each one keeps the very object that it is given, in its field."""


class HeapError(ValueError):
    """The base class of the errors for invalid values."""


class InvalidProgram(HeapError):
    """The value is no program; index is that of its first item that is no operation."""

    def __init__(self, index):
        self.index = index


class InvalidMachine(HeapError):
    """The machine's parameter with this name is not of its form."""

    def __init__(self, name):
        self.name = name


class InvalidNumber(HeapError):
    """The value is not one of those that are asked for here."""

    def __init__(self, value):
        self.value = value


class InvalidMove(HeapError):
    """The move is not possible."""

    def __init__(self, move):
        self.move = move


class InvalidRun(HeapError):
    """The value is no run; index is that of its first invalid move."""

    def __init__(self, index):
        self.index = index


class InvalidState(HeapError):
    """The value is no state, or no key of one, that is known here."""

    def __init__(self, state):
        self.state = state


class InvalidLogs(HeapError):
    """The value is no list of logs; index is that of its first item that is no log."""

    def __init__(self, index):
        self.index = index


class InvalidCommand(HeapError):
    """The value is no command of the console."""

    def __init__(self, value):
        self.value = value


class ParseError(HeapError):
    """The value is no text of the form; line is the first one that cannot stand there."""

    def __init__(self, line):
        self.line = line


class LimitExceeded(OverflowError):
    """There is more than the limit allows."""

    def __init__(self, limit):
        self.limit = limit


class NothingToUndo(RuntimeError):
    """There are not so many moves to take back, or to play again."""

    def __init__(self, amount):
        self.amount = amount
