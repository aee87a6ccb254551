"""A console, which runs commands on a workbench."""

from homefrees.errors import InvalidCommand
from homefrees.lines import read_row, text_of
from homefrees.loads import held
from homefrees.runs import is_move


def part_text(part):
    """Return the text of a part of an event: a word, a number, or a block."""
    if isinstance(part, tuple):
        page, number = part
        return f"{page}.{number}"
    return str(part)


def event_text(event):
    """Return the words of an event."""
    return " ".join([part_text(part) for part in event])


def moves_text(moves):
    """Return the moves, separated by commas, or what stands for none."""
    return ",".join([text_of([move]) for move in moves]) if moves else "-"


def slot_text(content):
    """Return what is in a slot."""
    if content is None:
        return "-"
    if content[0] == "block":
        return part_text(content[1:])
    return event_text(content)


def tell_moves(workbench):
    """Return the possible moves."""
    return moves_text(workbench.machine.moves(workbench.now))


def tell_run(workbench):
    """Return the moves that are played."""
    return moves_text(workbench.moves())


def tell_slots(workbench):
    """Return what is in the slots."""
    return ",".join([slot_text(content) for content in workbench.now.slots])


def tell_held(workbench):
    """Return the number of the held pages."""
    return str(held(workbench.now))


def tell_flight(workbench):
    """Return the number of the messages."""
    return str(len(workbench.now.flight))


def finish(workbench):
    """Play to the end, and return the number of the moves."""
    return str(workbench.finish())


def undo(workbench):
    """Take back the latest move."""
    workbench.undo()
    return "ok"


def redo(workbench):
    """Play the move again that was taken back last."""
    workbench.redo()
    return "ok"


COMMANDS = {
    "moves": tell_moves,
    "finish": finish,
    "undo": undo,
    "redo": redo,
    "slots": tell_slots,
    "held": tell_held,
    "flight": tell_flight,
    "run": tell_run,
}


class Console:
    """Runs commands on the workbench that it is given."""

    def __init__(self, workbench):
        # The very object, and no copy: what is played here is played there.
        self._workbench = workbench

    def execute(self, command):
        """Run a command, and return what it tells; accepts any value."""
        if not isinstance(command, str):
            raise InvalidCommand(command)
        if command in COMMANDS:
            action = COMMANDS[command]
            return action(self._workbench)
        # A row of a word and an integer is a move of the form that it has in texts of runs.
        move = read_row(command)
        if not is_move(move):
            raise InvalidCommand(command)
        return event_text(self._workbench.play(move))

    def __len__(self):
        return len(self._workbench)
