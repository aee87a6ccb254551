"""Ledgers: which blocks change their place, and which rows are right."""

import random
import unittest

from homefrees.errors import InvalidRun
from homefrees.ledgers import first_wrong, ledger
from homefrees.machine import Machine
from homefrees.places import places
from support import OTHERS, STRINGS, changed, moves_of, paths_of, part_at, random_runs, replaced_at, tiny_searches
from support import values_of_other_kinds

RUNS = random_runs(31, 200)

FREE, PAGE = ("free",), ("page",)

# The table of the document, with "own" for the thread or the socket of the move.
TABLE = """
step: free -> page, own cache
step: page -> own cache
step: own cache -> slot, page, flight
step: slot -> own cache, page, own batch
step: own batch -> flight
step: own arrivals -> own hand
step: own hand -> page, flight
carry: flight -> same arrivals
recover: own hand -> arrivals
recover: own cache -> arrivals
recover: own batch -> arrivals
sweep: own arrivals -> page, flight
"""


def lines_of_table():
    """Return the tuples (word of the move, source, target) of the table."""
    lines = []
    for row in TABLE.strip().split("\n"):
        word, rest = row.split(": ")
        source, targets = rest.split(" -> ")
        lines.extend([(word, source, target) for target in targets.split(", ")])
        # From free, free is no other place.
        if "page" in targets.split(", ") and source != "free":
            lines.append((word, source, "free"))
    return lines + [("step", "page", "free"), ("sweep", "page", "free")]


LINES = lines_of_table()


def all_places(machine):
    threads = range(len(machine.threads))
    found = [FREE, PAGE]
    found.extend([("slot", slot) for slot in range(machine.slots)])
    found.extend([(word, thread) for word in ("hand", "cache", "batch") for thread in threads])
    return found + [(word, socket) for word in ("arrivals", "flight") for socket in range(machine.sockets)]


def all_moves(machine):
    moves = [(word, thread) for word in ("step", "stop", "recover") for thread in range(len(machine.threads))]
    return moves + [("sweep", socket) for socket in range(machine.sockets)] + [("carry", 0), ("carry", 999999999)]


def is_meant(machine, move, place, text):
    """Return whether the text of the table means this place."""
    word = text.split(" ")[-1]
    if place[0] != word:
        return False
    if not text.startswith("own "):
        return True
    if word == "arrivals" and move[0] == "step":
        return place[1] == machine.threads[move[1]][0]
    return place[1] == move[1]


def is_in_table(machine, move, source, target):
    for word, first, second in LINES:
        if word != move[0] or not is_meant(machine, move, source, first) or not is_meant(machine, move, target, second):
            continue
        if second != "same arrivals" or source[1] == target[1]:
            return True
    return False


class Reference:
    """The six rules of the document, one after the other, as plainly as can be."""

    def __init__(self, machine):
        self.machine = machine
        self.places = all_places(machine)
        self.blocks = [(page, number) for page in range(machine.pages) for number in range(max(machine.classes))]
        self.at = {block: FREE for block in self.blocks}
        self.together = {}

    def is_right(self, row):
        if not self.has_form(row):
            return False
        move, transfers = row
        if any(self.at[block] != source or source == target for block, source, target in transfers):
            return False
        if not self.leave([block for block, source, _ in transfers if source == FREE]):
            return False
        freed = [block for block, _, target in transfers if target == FREE]
        if any(other not in freed for block in freed for other in self.together[block]):
            return False
        if not all(is_in_table(self.machine, move, source, target) for _, source, target in transfers):
            return False
        self.at.update({block: target for block, _, target in transfers})
        return self.has_room()

    def has_form(self, row):
        if type(row) is not tuple or len(row) != 2:
            return False
        move, transfers = row
        if type(move) is not tuple or len(move) != 2 or type(move[0]) is not str or type(move[1]) is not int:
            return False
        if move not in all_moves(self.machine) and not (move[0] == "carry" and 0 <= move[1] < 10 ** 9):
            return False
        if type(transfers) is not tuple or not all(self.is_transfer(transfer) for transfer in transfers):
            return False
        blocks = [block for block, _, _ in transfers]
        return blocks == sorted(blocks) and len(blocks) == len(set(blocks))

    def is_transfer(self, transfer):
        if type(transfer) is not tuple or len(transfer) != 3:
            return False
        known = [(self.blocks, transfer[0]), (self.places, transfer[1]), (self.places, transfer[2])]
        return all(type(part) is tuple and part in values and bool not in map(type, part) for values, part in known)

    def leave(self, blocks):
        for page in {page for page, _ in blocks}:
            leaving = [block for block in blocks if block[0] == page]
            if any(place != FREE for block, place in self.at.items() if block[0] == page):
                return False
            if leaving not in [[(page, number) for number in range(many)] for many in self.machine.classes]:
                return False
            self.together.update({block: leaving for block in leaving})
        return True

    def has_room(self):
        machine, where = self.machine, list(self.at.values())
        cached = machine.batch * len(machine.classes)
        most = {"slot": 1, "cache": cached, "batch": cached * machine.sockets}
        return all(where.count(place) <= most[place[0]] for place in self.places if place[0] in most)


def wrong_by_reference(machine, rows):
    reference = Reference(machine)
    return next((index for index, row in enumerate(rows) if not reference.is_right(row)), None)


def row_of(move, *transfers):
    """Return a row of transfers "page number source target", such as "0 0 free cache0"."""
    return (moves_of(move)[0], tuple(map(transfer_of, transfers)))


def transfer_of(text):
    page, number, source, target = text.split(" ")
    return ((int(page), int(number)), place_of(source), place_of(target))


def place_of(text):
    word = text.rstrip("0123456789")
    return (word, int(text[len(word):])) if word != text else (word,)


def places_told(machine, state):
    """Return a dict with the place of each block that is not free, as a ledger tells it."""
    found = {}
    for block, (place,) in places(machine, state).items():
        found[block] = ("flight", state.flight[place[1]][0]) if place[0] == "flight" else place
    return found


def setup_for(machine, place):
    """Return right rows behind which the block (0, 0), the only one of its page, is at the place."""
    word, *numbers = place
    if word == "free":
        return []
    if word == "page":
        return [row_of("0", "0 0 free page")]
    number = numbers[0]
    if word in ("cache", "batch"):
        rows = [row_of(f"{number}", f"0 0 free cache{number}")]
        if word == "batch":
            rows.append(row_of(f"{number}", f"0 0 cache{number} slot0"))
            rows.append(row_of(f"{number}", f"0 0 slot0 batch{number}"))
        return rows
    if word == "hand":
        socket = machine.threads[number][0]
        return [*setup_for(machine, ("arrivals", socket)), row_of(f"{number}", f"0 0 arrivals{socket} hand{number}")]
    if word == "arrivals":
        return [*setup_for(machine, ("flight", number)), row_of("carry3", f"0 0 flight{number} arrivals{number}")]
    return [row_of("0", "0 0 free cache0"), row_of("0", f"0 0 cache0 {word}{number}")]


class LedgerTests(unittest.TestCase):
    def test_example_of_the_document(self):
        machine = Machine(2, [1], [(0, [("alloc", 0, 0)]), (1, [("free", 0)])], pages=1)
        rows = [
            row_of("0"),
            row_of("0", "0 0 free cache0"),
            row_of("0", "0 0 cache0 slot0"),
            row_of("1", "0 0 slot0 batch1"),
            row_of("1", "0 0 batch1 flight0"),
            row_of("carry0", "0 0 flight0 arrivals0"),
            row_of("sweep0", "0 0 arrivals0 free"),
        ]
        self.assertEqual(ledger(machine, moves_of("0 0 0 1 1 carry0 sweep0")), rows)
        self.assertEqual(ledger(machine, tuple(moves_of("0 0 0 1 1 carry0 sweep0"))), rows)
        self.assertEqual(rows[1], (("step", 0), (((0, 0), ("free",), ("cache", 0)),)))

    def test_opened_and_filled_pages(self):
        machine = Machine(1, [3], [(0, [("alloc", 0, 0), ("alloc", 0, 1), ("alloc", 0, 2)])], batch=2, slots=3)
        self.assertEqual(ledger(machine, moves_of("0 0 0 0 0 0 0")), [
            row_of("0"),
            row_of("0", "0 0 free cache0", "0 1 free cache0", "0 2 free page"),
            row_of("0", "0 1 cache0 slot0"),
            row_of("0", "0 0 cache0 slot1"),
            row_of("0"),
            row_of("0", "0 2 page cache0"),
            row_of("0", "0 2 cache0 slot2"),
        ])

    def test_stopped_threads(self):
        threads = [(0, [("alloc", 0, 0)]), (1, [("free", 0)])]
        machine = Machine(2, [2], threads, pages=2, batch=2, stops=2)
        self.assertEqual(ledger(machine, moves_of("0 0 0 1 stop1 stop0 recover0 recover1 sweep0")), [
            row_of("0"),
            row_of("0", "0 0 free cache0", "0 1 free cache0"),
            row_of("0", "0 1 cache0 slot0"),
            row_of("1", "0 1 slot0 batch1"),
            row_of("stop1"),
            row_of("stop0"),
            row_of("recover0", "0 0 cache0 arrivals0"),
            row_of("recover1", "0 1 batch1 arrivals0"),
            row_of("sweep0", "0 0 arrivals0 free", "0 1 arrivals0 free"),
        ])

    def test_hands_and_adopted_pages(self):
        threads = [
            (0, [("alloc", 0, 0), ("alloc", 1, 1)]), (1, [("adopt", 0), ("free", 0), ("free", 1)]), (0, [("drain",)]),
        ]
        machine = Machine(2, [1, 2], threads, pages=2)
        self.assertEqual(ledger(machine, moves_of("0 0 0 0 0 0 1 1 1 1 carry0 2 2"))[4:], [
            row_of("0", "1 0 free cache0", "1 1 free page"),
            row_of("0", "1 0 cache0 slot1"),
            row_of("1"),
            # The page is that of the thread's socket now.
            row_of("1", "0 0 slot0 cache1"),
            row_of("1", "1 0 slot1 batch1"),
            row_of("1", "1 0 batch1 flight0"),
            row_of("carry0", "1 0 flight0 arrivals0"),
            row_of("2", "1 0 arrivals0 hand2"),
            # With its last block, the whole page becomes free.
            row_of("2", "1 0 hand2 free", "1 1 page free"),
        ])

    def test_blocks_that_are_passed_on(self):
        threads = [(0, [("alloc", 0, 0), ("alloc", 0, 1)]), (1, [("free", 0), ("adopt", 1)]), (0, [("drain",)])]
        machine = Machine(2, [3], threads, pages=1)
        rows = [
            row_of("0", "0 0 free cache0", "0 1 free page", "0 2 free page"),
            row_of("0", "0 0 cache0 slot0"),
            row_of("0"),
            row_of("0", "0 1 page cache0"),
            row_of("0", "0 1 cache0 slot1"),
            row_of("1", "0 0 slot0 batch1"),
            row_of("1", "0 0 batch1 flight0"),
            row_of("1"),
            row_of("carry0", "0 0 flight0 arrivals0"),
        ]
        by_thread = [
            *rows, row_of("2", "0 0 arrivals0 hand2"), row_of("2", "0 0 hand2 flight1"),
            row_of("carry0", "0 0 flight1 arrivals1"), row_of("sweep1", "0 0 arrivals1 page"),
        ]
        self.assertEqual(ledger(machine, moves_of("0 0 0 0 0 0 1 1 1 carry0 2 2 carry0 sweep1"))[1:], by_thread)
        by_sweep = [
            *rows, row_of("sweep0", "0 0 arrivals0 flight1"), row_of("carry0", "0 0 flight1 arrivals1"),
            row_of("sweep1", "0 0 arrivals1 page"),
        ]
        machine = changed(machine, threads=threads[:2])
        self.assertEqual(ledger(machine, moves_of("0 0 0 0 0 0 1 1 1 carry0 sweep0 carry0 sweep1"))[1:], by_sweep)

    def test_the_places_are_those_of_the_states(self):
        moved = set()
        for machine, moves in RUNS:
            rows = ledger(machine, moves)
            states = [machine.start] + [state for state, _ in machine.run(moves)]
            self.assertEqual([move for move, _ in rows], moves)
            for (move, transfers), before, behind in zip(rows, states, states[1:]):
                first, last = places_told(machine, before), places_told(machine, behind)
                wanted = []
                for block in sorted({*first, *last}):
                    if first.get(block, FREE) != last.get(block, FREE):
                        wanted.append((block, first.get(block, FREE), last.get(block, FREE)))
                        moved.add((move[0], wanted[-1][1][0], wanted[-1][2][0]))
                self.assertEqual(transfers, tuple(wanted))
        # All lines of the table occur, but for that of the next test.
        lines = {(word, source.split(" ")[-1], target.split(" ")[-1]) for word, source, target in LINES}
        self.assertEqual(lines - moved - {("recover", "hand", "arrivals")}, set())

    def test_stopped_threads_with_a_hand(self):
        machine = Machine(2, [1], [(0, [("alloc", 0, 0), ("alloc", 0, 1)]), (1, [("free", 0)])], stops=1)
        self.assertEqual(ledger(machine, moves_of("0 0 0 1 1 carry0 0 stop0 recover0 sweep0"))[6:], [
            row_of("0", "0 0 arrivals0 hand0"),
            row_of("stop0"),
            row_of("recover0", "0 0 hand0 arrivals0"),
            row_of("sweep0", "0 0 arrivals0 free"),
        ])

    def test_new_rows_each_time(self):
        machine, moves = RUNS[0]
        rows = ledger(machine, moves)
        self.assertEqual(ledger(machine, moves), rows)
        ledger(machine, moves).clear()
        self.assertEqual(ledger(machine, moves), rows)
        self.assertIsInstance(rows, list)

    def test_no_moves_have_no_rows(self):
        machine = Machine(1, [1], [(0, [])])
        self.assertEqual([ledger(machine, []), ledger(machine, ())], [[], []])

    def test_wrong_runs(self):
        machine = Machine(1, [1], [(0, [("alloc", 0, 0)])])
        for moves, index in [("1", 0), ("0 0 0 0", 3), ("0 carry0 0", 1)]:
            with self.assertRaises(InvalidRun) as caught:
                ledger(machine, moves_of(moves))
            self.assertEqual(caught.exception.index, index)
        with self.assertRaises(InvalidRun) as caught:
            ledger(machine, [("step", False)])
        self.assertEqual(caught.exception.index, 0)
        for value in [*OTHERS, *STRINGS, 0, 1]:
            with self.assertRaises(InvalidRun) as caught:
                ledger(machine, value)
            self.assertIsNone(caught.exception.index)


# Two sockets, three threads on other sockets than their numbers, and pages of one, two or three blocks.
THREADS = [(1, [("alloc", 0, 0)]), (0, [("free", 0)]), (1, [("drain",)])]
MACHINE = Machine(2, [1, 3, 2], THREADS, pages=9)


class RowTests(unittest.TestCase):
    def check(self, rows, wanted, machine=MACHINE):
        with self.subTest(rows=rows):
            self.assertEqual(first_wrong(machine, rows), wanted)
            self.assertEqual(first_wrong(machine, tuple(rows)), wanted)
            self.assertEqual(wrong_by_reference(machine, rows), wanted)

    def test_example_of_the_document(self):
        machine = Machine(2, [1], [(0, [("alloc", 0, 0)]), (1, [("free", 0)])], pages=1)
        rows = ledger(machine, moves_of("0 0 0 1 1 carry0 sweep0"))
        self.check(rows, None, machine)
        self.check(rows[:2] + rows[3:], 2, machine)

    def test_no_rows(self):
        self.check([], None)

    def test_values_that_are_no_lists(self):
        for value in [*OTHERS, *STRINGS, 0, 1, 7]:
            with self.assertRaises(InvalidRun) as caught:
                first_wrong(MACHINE, value)
            self.assertIsNone(caught.exception.index)

    def test_rows_that_no_run_has(self):
        # The machine is not played.
        rows = [
            row_of("carry999999999"), row_of("stop0"), row_of("stop0"), row_of("recover2"), row_of("sweep1"),
            row_of("step2"), row_of("stop2"), row_of("1", "8 0 free page", "8 1 free page"),
            row_of("1", "8 0 page free", "8 1 page free"),
        ]
        self.check(rows, None)

    def test_moves_of_another_machine(self):
        for move in [("step", 3), ("stop", 3), ("recover", 3), ("sweep", 2), ("carry", 10 ** 9), ("step", -1)]:
            self.check([row_of("0"), (move, ())], 1)
        for move in [("step", 0), ("stop", 2), ("recover", 2), ("sweep", 1), ("carry", 10 ** 9 - 1)]:
            self.check([row_of("0"), (move, ())], None)

    def test_moves_of_other_forms(self):
        for move in [(), ("step",), ("step", 0, 0), ["step", 0], ("walk", 0), ("", 0), ("Step", 0), "step 0", None]:
            self.check([(move, ())], 0)
        for number in [True, False, None, "0", (0,), b"0"]:
            for word in ("step", "carry", "sweep"):
                self.check([((word, number), ())], 0)

    def test_rows_of_other_forms(self):
        for row in [*OTHERS, *STRINGS, 0, (), [], (("step", 0),), (("step", 0), (), ()), [("step", 0), ()]]:
            self.check([row], 0)
            self.check([row_of("0"), row], 1)
        for transfers in [*OTHERS, *STRINGS, 0, [], [((0, 0), FREE, PAGE)], ((),), (None,), (0,)]:
            self.check([(("step", 0), transfers)], 0)

    def test_transfers_of_other_forms(self):
        right = ((0, 0), FREE, PAGE)
        self.check([(("step", 0), (right,))], None)
        for transfer in [*OTHERS, *STRINGS, 0, (), list(right), right[:2], (*right, PAGE), (right,)]:
            self.check([(("step", 0), (transfer,))], 0)
        none = [("free", 0), ("page", 0), ("cache",), ("slot", 2), ("slot", -1), ("arrivals", 0, 0), ["free"], (0,)]
        for part in [*OTHERS, *STRINGS, 0, (), [], *none]:
            self.check([(("step", 0), (((0, 0), FREE, part),))], 0)
            self.check([(("step", 0), (((0, 0), part, PAGE),))], 0)
            self.check([(("step", 0), ((part, FREE, PAGE),))], 0)

    def test_blocks_of_the_machine(self):
        for block in [(9, 0), (0, 3), (-1, 0), (0, -1), (0,), (0, 0, 0), [0, 0], (False, 0), (0, False), ("0", 0)]:
            self.check([(("step", 0), ((block, FREE, PAGE),))], 0)
        self.check([row_of("0", "8 0 free page", "8 1 free page", "8 2 free page")], None)

    def test_places_of_the_machine(self):
        rows = [row_of("0", "0 0 free cache0")]
        self.check([*rows, row_of("0", "0 0 cache0 slot1")], None)
        self.check([*rows, row_of("0", "0 0 cache0 flight1")], None)
        for target in ("slot2", "flight2", "cache3", "slot7"):
            self.check([*rows, row_of("0", f"0 0 cache0 {target}")], 1)
        for number in (True, False, None, "0", (0,), -1, 10 ** 9):
            self.check([*rows, (("step", 0), (((0, 0), ("cache", 0), ("slot", number)),))], 1)
            self.check([*rows, (("step", 0), (((0, 0), ("cache", number), ("slot", 0)),))], 1)

    def test_blocks_are_ascending(self):
        opened = ["0 0 free cache0", "0 1 free page", "0 2 free page"]
        self.check([row_of("0", *opened)], None)
        self.check([row_of("0", *reversed(opened))], 0)
        self.check([row_of("0", opened[0], opened[2], opened[1])], 0)
        self.check([row_of("0", *opened, opened[2])], 0)
        self.check([row_of("0", opened[0], *opened)], 0)
        self.check([row_of("0", "0 0 free page", "1 0 free page")], None)
        self.check([row_of("0", "1 0 free page", "0 0 free page")], 0)
        # None is in a row twice, wherever it is.
        rows = [row_of("0", "0 0 free cache0")]
        self.check([*rows, row_of("0", "0 0 cache0 page")], None)
        self.check([*rows, row_of("0", "0 0 cache0 page", "0 0 cache0 page")], 1)
        self.check([*rows, row_of("0", "0 0 cache0 page", "0 0 cache0 flight1")], 1)
        # Not by their numbers alone.
        self.check([row_of("0", "0 0 free page", "0 1 free page", "1 0 free page")], None)
        self.check([row_of("0", "0 0 free page", "1 0 free page", "0 1 free page")], 0)

    def test_blocks_are_at_their_sources(self):
        rows = [row_of("0", "0 0 free cache0")]
        self.check([*rows, row_of("0", "0 0 cache0 slot0")], None)
        self.check([row_of("0", "0 0 cache0 slot0")], 0)
        for source in ("free", "page", "slot0", "hand0", "cache1", "batch0", "arrivals1", "flight0"):
            for target in ("page", "cache0", "slot0", "hand0", "flight0", "arrivals0", "free"):
                self.check([*rows, row_of("0", f"0 0 {source} {target}")], 1)
        self.check([*rows, row_of("0", "0 1 cache0 slot0")], 1)
        self.check([*rows, row_of("0", "1 0 cache0 slot0")], 1)
        self.check([*rows, row_of("0", "0 0 cache0 slot0"), row_of("0", "0 0 cache0 slot1")], 2)

    def test_targets_are_other_places(self):
        for place in all_places(MACHINE):
            rows = setup_for(MACHINE, place)
            for move in all_moves(MACHINE):
                self.check([*rows, (move, (((0, 0), place, place),))], len(rows))

    def test_blocks_that_leave_the_free_ones(self):
        for numbers in ([0], [0, 1], [0, 1, 2]):
            self.check([row_of("0", *[f"3 {number} free page" for number in numbers])], None)
        for numbers in ([1], [2], [0, 2], [1, 2]):
            self.check([row_of("0", *[f"3 {number} free page" for number in numbers])], 0)
        # No class has pages of one block, or of two.
        machine = changed(MACHINE, classes=[4, 3])
        for numbers, wanted in [([0], 0), ([0, 1], 0), ([0, 1, 2], None), ([0, 1, 2, 3], None), ([1, 2, 3], 0)]:
            self.check([row_of("0", *[f"3 {number} free page" for number in numbers])], wanted, machine)

    def test_blocks_of_a_page_in_use_do_not_leave_the_free_ones(self):
        for second in ("0 1 free page", "0 2 free page"):
            self.check([row_of("0", "0 0 free page"), row_of("0", second)], 1)
        self.check([row_of("0", "0 0 free page", "0 1 free page"), row_of("0", "0 2 free page")], 1)
        self.check([row_of("0", "0 0 free page"), row_of("0", "0 1 free page", "0 2 free page")], 1)
        self.check([row_of("0", "0 0 free page"), row_of("0", "0 0 page free", "0 1 free page")], 1)
        # Two pages may leave them in one row, and a page again in another class.
        both = row_of("0", "0 0 free page", "1 0 free cache0", "1 1 free page")
        self.check([both, row_of("1", "0 0 page free"), row_of("2", "0 0 free page", "0 1 free page")], None)
        self.check([both, row_of("1", "0 0 page free"), row_of("2", "0 1 free page")], 2)

    def test_blocks_that_become_free(self):
        opened = [row_of("0", "0 0 free cache0", "0 1 free page", "0 2 free page"), row_of("0", "0 0 cache0 slot0")]
        self.check([*opened, row_of("0", "0 0 slot0 free", "0 1 page free", "0 2 page free")], None)
        self.check([*opened, row_of("0", "0 0 slot0 free")], 2)
        self.check([*opened, row_of("0", "0 1 page free", "0 2 page free")], 2)
        self.check([*opened, row_of("0", "0 0 slot0 free", "0 2 page free")], 2)
        self.check([*opened, row_of("0", "0 0 slot0 page", "0 1 page free", "0 2 page free")], 2)
        self.check([*opened, row_of("0", "0 0 slot0 page")], None)
        free = [*opened, row_of("0", "0 0 slot0 free", "0 1 page free", "0 2 page free")]
        self.check([*free, row_of("0", "0 0 slot0 free")], 3)
        self.check([*free, row_of("0", "0 0 free page"), row_of("0", "0 0 page free"), *free], None)

    def test_only_those_of_one_page_become_free_together(self):
        opened = [row_of("0", "0 0 free cache0", "1 0 free cache0", "1 1 free page")]
        self.check([*opened, row_of("0", "0 0 cache0 free")], None)
        self.check([*opened, row_of("0", "0 0 cache0 free", "1 0 cache0 free", "1 1 page free")], None)
        self.check([*opened, row_of("0", "0 0 cache0 free", "1 0 cache0 free")], 1)

    def test_lines_of_the_table(self):
        right = 0
        for source in all_places(MACHINE):
            rows = setup_for(MACHINE, source)
            self.check(rows, None)
            for move in all_moves(MACHINE):
                for target in all_places(MACHINE):
                    is_right = source != target and is_in_table(MACHINE, move, source, target)
                    right += is_right
                    found = first_wrong(MACHINE, [*rows, (move, (((0, 0), source, target),))])
                    with self.subTest(move=move, source=source, target=target):
                        self.assertEqual(found, None if is_right else len(rows))
        # As many as the table has by hand: for each of 3 threads, 4 sockets to carry or sweep, and so on.
        steps = 3 * (2 + 2 + (2 + 1 + 1 + 2) + 2 * 4 + 2 + 1 + (1 + 1 + 2))
        self.assertEqual(right, steps + 2 * 2 + 3 * 3 * 2 + 2 * (1 + 1 + 2 + 1))

    def test_slots_have_one_block(self):
        rows = [row_of("0", "0 0 free cache0", "1 0 free cache0"), row_of("0", "0 0 cache0 slot0")]
        self.check([*rows, row_of("0", "1 0 cache0 slot1")], None)
        self.check([*rows, row_of("0", "1 0 cache0 slot0")], 2)
        self.check([rows[0], row_of("0", "0 0 cache0 slot1", "1 0 cache0 slot1")], 1)
        # Behind the row there is one block in the slot.
        self.check([*rows, row_of("0", "0 0 slot0 cache0", "1 0 cache0 slot0")], None)
        self.check([*rows, row_of("0", "0 0 slot0 cache0", "1 0 cache0 slot0"), row_of("0", "0 0 cache0 slot0")], 3)
        self.check([*rows, row_of("1", "0 0 slot0 batch1"), row_of("0", "1 0 cache0 slot0")], None)

    def test_caches_have_at_most_so_many_blocks(self):
        for batch in (1, 2):
            machine = changed(MACHINE, batch=batch)
            fill = [f"{page} 0 free cache1" for page in range(9)]
            most = 3 * batch
            self.check([row_of("1", *fill[:most])], None, machine)
            self.check([row_of("1", *fill[:most + 1])], 0, machine)
            self.check([*[row_of("1", transfer) for transfer in fill[:most + 1]]], most, machine)
            # Another thread has its own cache.
            other = f"{most} 0 free cache2"
            self.check([row_of("1", *fill[:most]), row_of("2", other), row_of("1", fill[most + 1])], 2, machine)
            # One goes, and another one comes.
            self.check([row_of("1", *fill[:most]), row_of("1", "0 0 cache1 page", fill[most])], None, machine)
        machine = changed(MACHINE, classes=[1])
        self.check([row_of("1", "0 0 free cache1", "1 0 free cache1")], 0, machine)
        self.check([row_of("1", "0 0 free cache1"), row_of("1", "0 0 cache1 slot0", "1 0 free cache1")], None, machine)

    def test_batches_have_at_most_so_many_blocks(self):
        for batch, classes, sockets in [(1, [1, 3, 2], 2), (2, [1], 2), (1, [1, 2], 3), (1, [1], 1)]:
            threads = [(0, []), (0, [])]
            machine = Machine(sockets, classes, threads, pages=9, batch=batch)
            rows = []
            for page in range(batch * len(classes) * sockets + 1):
                rows.append(row_of("1", f"{page} 0 free cache1"))
                rows.append(row_of("1", f"{page} 0 cache1 slot1"))
                rows.append(row_of("1", f"{page} 0 slot1 batch1"))
            self.check(rows, len(rows) - 1, machine)
            self.check(rows[:-1], None, machine)
            # A block that is sent makes room, also in the same row.
            self.check([*rows[:-1], row_of("1", "0 0 batch1 flight0"), rows[-1]], None, machine)
            _, transfers = rows[-1]
            both = (("step", 1), (transfer_of("0 0 batch1 flight0"), *transfers))
            self.check([*rows[:-1], both], None, machine)
            self.check([*rows[:-1], (("step", 0), (((page, 0), ("slot", 1), ("batch", 0)),))], None, machine)

    def test_other_places_have_room_for_all(self):
        machine = changed(MACHINE, classes=[1], batch=1)
        rows = []
        for page in range(9):
            rows.extend([row_of("1", f"{page} 0 free cache1"), row_of("1", f"{page} 0 cache1 flight0")])
        rows.append(row_of("carry0", *[f"{page} 0 flight0 arrivals0" for page in range(9)]))
        rows.append(row_of("1", *[f"{page} 0 arrivals0 hand1" for page in range(9)]))
        rows.append(row_of("recover1", *[f"{page} 0 hand1 arrivals{page - page // 2 * 2}" for page in range(9)]))
        rows.append(row_of("sweep0", *[f"{page} 0 arrivals0 page" for page in (0, 2, 4, 6, 8)]))
        self.check(rows, None, machine)
        self.check([row_of("0", *[f"{page} 0 free page" for page in range(9)])], None, machine)

    def test_parts_of_other_kinds_at_every_depth(self):
        machine = Machine(2, [1], [(0, [("alloc", 0, 0)]), (1, [("free", 0)])], pages=1)
        rows = ledger(machine, moves_of("0 0 0 1 1 carry0 sweep0"))
        for path in paths_of(rows)[1:]:
            for value in values_of_other_kinds(part_at(rows, path)):
                with self.subTest(path=path, value=value):
                    self.assertEqual(first_wrong(machine, replaced_at(rows, path, value)), path[0])

    def test_arguments_are_not_changed(self):
        machine, moves = RUNS[3]
        rows, kept = ledger(machine, moves), ledger(machine, moves)
        first_wrong(machine, rows)
        self.assertEqual(rows, kept)


def bent(chooser, machine, rows):
    """Return the rows with one thing changed."""
    rows = list(rows)
    index = chooser.randrange(len(rows))
    move, transfers = rows[index]
    choice = chooser.randrange(7)
    if choice == 0:
        del rows[index]
    elif choice == 1:
        rows.insert(index, chooser.choice(rows))
    elif choice == 2 and index:
        rows[index - 1:index + 1] = [rows[index], rows[index - 1]]
    elif choice == 3:
        rows[index] = (chooser.choice(all_moves(machine)), transfers)
    elif transfers:
        at = chooser.randrange(len(transfers))
        block, source, target = transfers[at]
        if choice == 4:
            rows[index] = (move, transfers[:at] + transfers[at + 1:])
        elif choice == 5:
            other = (block, source, chooser.choice(all_places(machine)))
            rows[index] = (move, (*transfers[:at], other, *transfers[at + 1:]))
        else:
            number = chooser.randrange(max(machine.classes) + 1)
            other = ((block[0], number), source, target)
            rows[index] = (move, (*transfers[:at], other, *transfers[at + 1:]))
    return rows


class ManyLedgersTests(unittest.TestCase):
    """Guarantee 11."""

    def test_ledgers_of_runs_have_no_wrong_row(self):
        for machine, moves in RUNS:
            rows = ledger(machine, moves)
            self.assertIsNone(first_wrong(machine, rows))
            self.assertIsNone(wrong_by_reference(machine, rows))

    def test_ledgers_of_all_moves_of_small_machines_have_no_wrong_row(self):
        for machine, search in tiny_searches(32, 10):
            for state in search.states():
                moves = search.run_to(state)
                for move in machine.moves(state):
                    self.assertIsNone(first_wrong(machine, ledger(machine, [*moves, move])))

    def test_changed_ledgers_are_judged_by_the_rules(self):
        chooser = random.Random(33)
        wrong = right = 0
        for machine, moves in RUNS:
            rows = ledger(machine, moves)
            for _ in range(6 if rows else 0):
                other = bent(chooser, machine, rows)
                if chooser.random() < 0.3:
                    other = bent(chooser, machine, other) if other else other
                wanted = wrong_by_reference(machine, other)
                self.assertEqual(first_wrong(machine, other), wanted)
                wrong += wanted is not None
                right += wanted is None and other != rows
        self.assertGreater(wrong, 400)
        self.assertGreater(right, 50)


if __name__ == "__main__":
    unittest.main()
