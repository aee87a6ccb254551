"""Runs that are equal by their logs, the number of the runs, and failures."""

from homefrees.logs import logs_of, put_together, unfinished
from homefrees.machine import Machine
from homefrees.moves import played, possible_moves
from homefrees.search import Search, ends_first


def same_runs(machine, first, second):
    """Return whether the runs have the same logs."""
    logs = logs_of(machine, first)
    return logs == logs_of(machine, second)


def by_next_moves(logs, positions):
    """Return the indexes of the logs with entries left, in the order of their next moves."""
    rows = [(logs[index][positions[index]][0], index) for index in unfinished(logs, positions)]
    return [index for _, index in sorted(rows)]


def normal_run(machine, moves):
    """Return the run with the same logs that is the first one in the order of lists."""
    # An entry that fits can be put before all others that are left, so that the least one is right each time.
    return put_together(machine, logs_of(machine, moves), by_next_moves)[0]


def run_count(search):
    """Return the number of the runs from the start to states without possible moves."""
    followers = search.followers()
    counts = [1] * len(followers)
    for number in ends_first(followers):
        row = followers[number]
        if row:
            counts[number] = sum([counts[follower] for follower in row])
    return counts[0]


def failing_move(machine, state):
    """Return the first move from the state that leads to a failure, or None."""
    for move in possible_moves(machine, state):
        if played(machine, state, move)[1] == ("fail",):
            return move
    return None


def first_failure(machine, *, limit=2000):
    """Return the run to the first state from which a move leads to a failure, with this move, or None."""
    search = Search(machine, limit=limit)
    for state in search.states():
        move = failing_move(machine, state)
        if move is not None:
            return [*search.run_to(state), move]
    return None


def with_pages(machine, pages):
    """Return the machine with another number of pages, otherwise unchanged."""
    return Machine(
        machine.sockets, machine.classes, machine.threads, pages=pages, batch=machine.batch, spare=machine.spare,
        slots=machine.slots, stops=machine.stops, fault=machine.fault,
    )


def least_pages(machine, *, limit=2000):
    """Return the least number of pages with which no run has a failure, or None."""
    for pages in range(1, machine.pages + 1):
        if first_failure(with_pages(machine, pages), limit=limit) is None:
            return pages
    return None
