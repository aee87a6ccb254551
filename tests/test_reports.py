"""Reports of runs, and what cleans up behind them."""

import random
import unittest

from homefrees.analysis import normal_run, same_runs
from homefrees.errors import InvalidRun
from homefrees.ledgers import first_wrong, ledger
from homefrees.loads import load, small_pages
from homefrees.logs import logs_of
from homefrees.machine import Machine
from homefrees.places import is_good
from homefrees.reports import check_report, cleanup, report
from support import OTHERS, STRINGS, changed, moves_of, paths_of, part_at, random_machine, random_runs, replaced_at
from support import tiny_machine, values_of_other_kinds

THREADS = [(0, [("alloc", 0, 0)]), (1, [("free", 0)])]
MACHINE = Machine(2, [1], THREADS, pages=1)
MOVES = moves_of("0 0 0 1 1 carry0 sweep0")

RUNS = random_runs(41, 120)


def peaks_of(machine, moves):
    """Return what a report tells last, computed from the states of the run themselves."""
    rows = machine.run(moves)
    states = [machine.start] + [state for state, _ in rows]
    adopted = {}
    for before, move, (_, event) in zip(states, moves, rows):
        if event[0] == "adopt" and event[2] != machine.threads[move[1]][0]:
            _, home, kind, _ = before.pages[event[1]]
            assert home == event[2]
            goal = (kind, machine.threads[move[1]][0])
            adopted[goal] = adopted.get(goal, 0) + 1
    peaks = []
    for kind in range(len(machine.classes)):
        for socket in range(machine.sockets):
            pages = max(small_pages(machine, state, kind, socket) for state in states)
            greatest = max(load(machine, state, kind, socket) for state in states)
            peaks.append((kind, socket, pages, greatest, adopted.get((kind, socket), 0)))
    return peaks


def exchanged(chooser, machine, moves):
    """Return a run with the same logs, in which neighbouring moves were exchanged."""
    moves = list(moves)
    for _ in range(3 * len(moves)):
        index = chooser.randrange(len(moves) - 1)
        other = [*moves[:index], moves[index + 1], moves[index], *moves[index + 2:]]
        try:
            if same_runs(machine, moves, other):
                moves = other
        except InvalidRun:
            continue
    return moves


def all_runs(machine, most):
    """Return all runs from the start, ended or not, or None if there are more than so many."""
    found = [([], machine.start)]
    for moves, state in found:
        if len(found) > most:
            return None
        found.extend([([*moves, move], machine.step(state, move)[0]) for move in machine.moves(state)])
    return [moves for moves, _ in found]


class ReportTests(unittest.TestCase):
    def test_example(self):
        logs, rows, peaks = report(MACHINE, MOVES)
        self.assertEqual(logs, logs_of(MACHINE, MOVES))
        self.assertEqual(rows, ledger(MACHINE, MOVES))
        self.assertEqual(peaks, [(0, 0, 1, 1, 0), (0, 1, 0, 0, 0)])
        self.assertEqual(report(MACHINE, tuple(MOVES)), (logs, rows, peaks))

    def test_run_without_moves(self):
        self.assertEqual(report(MACHINE, []), ([[], [], []], [], [(0, 0, 0, 0, 0), (0, 1, 0, 0, 0)]))
        self.assertEqual(report(Machine(1, [2, 1], [(0, [])]), ()), ([[], []], [], [(0, 0, 0, 0, 0), (1, 0, 0, 0, 0)]))

    def test_adoptions(self):
        threads = [(0, [("alloc", 0, 0)]), (1, [("adopt", 0), ("adopt", 0)]), (0, [("adopt", 0)])]
        machine = Machine(2, [3, 1], threads, pages=2)
        moves = moves_of("0 0 0 1 2 1")
        peaks = [(0, 0, 1, 1, 1), (0, 1, 1, 1, 2), (1, 0, 0, 0, 0), (1, 1, 0, 0, 0)]
        self.assertEqual(report(machine, moves)[2], peaks)
        # From the own socket it is none.
        self.assertEqual(report(machine, moves_of("0 0 0 1 1 2"))[2][:2], [(0, 0, 1, 1, 1), (0, 1, 1, 1, 1)])

    def test_the_rows_are_those_of_the_normal_run(self):
        machine = Machine(2, [2], [(0, [("alloc", 0, 0)]), (1, [("alloc", 0, 1)])], pages=2)
        moves = moves_of("1 0 1 0 0 1")
        normal = normal_run(machine, moves)
        self.assertNotEqual(normal, moves)
        logs, rows, _ = report(machine, moves)
        self.assertEqual([move for move, _ in rows], normal)
        self.assertEqual(rows, ledger(machine, normal))
        self.assertEqual(logs, logs_of(machine, moves))

    def test_parts_of_reports(self):
        adopted = 0
        for machine, moves in RUNS:
            told = report(machine, moves)
            self.assertIsInstance(told, tuple)
            logs, rows, peaks = told
            normal = normal_run(machine, moves)
            self.assertEqual(logs, logs_of(machine, moves))
            self.assertEqual(rows, ledger(machine, normal))
            self.assertEqual(peaks, peaks_of(machine, normal))
            self.assertIsNone(first_wrong(machine, rows))
            adopted += sum([peak[4] for peak in peaks])
        self.assertGreater(adopted, 30)

    def test_runs_with_the_same_logs_have_the_same_report(self):
        chooser = random.Random(42)
        others = 0
        for machine, moves in RUNS[:30]:
            if len(moves) < 2:
                continue
            other = exchanged(chooser, machine, moves[:40])
            others += other != moves[:40]
            self.assertEqual(report(machine, other), report(machine, moves[:40]))
        self.assertGreater(others, 10)

    def test_new_lists_each_time(self):
        logs, rows, peaks = report(MACHINE, MOVES)
        wanted = report(MACHINE, MOVES)
        logs[0].clear()
        rows.clear()
        peaks.clear()
        self.assertEqual(report(MACHINE, MOVES), wanted)

    def test_wrong_runs(self):
        for call in (report, cleanup):
            for moves, index in [("1", 0), ("0 0 0 0", 3), ("0 0 carry0", 2), ("stop0", 0)]:
                with self.assertRaises(InvalidRun) as caught:
                    call(MACHINE, moves_of(moves))
                self.assertEqual(caught.exception.index, index)
            for value in [*OTHERS, *STRINGS, 0, 1]:
                with self.assertRaises(InvalidRun) as caught:
                    call(MACHINE, value)
                self.assertIsNone(caught.exception.index)
            for item in [*OTHERS, *STRINGS, 0, ("step", False), ("step",), ["step", 0]]:
                with self.assertRaises(InvalidRun) as caught:
                    call(MACHINE, [("step", 0), item])
                self.assertEqual(caught.exception.index, 1)


class CheckReportTests(unittest.TestCase):
    def test_reports_of_runs(self):
        for machine, moves in RUNS:
            self.assertIs(check_report(machine, report(machine, moves)), True)
        for many in range(len(MOVES) + 1):
            self.assertIs(check_report(MACHINE, report(MACHINE, MOVES[:many])), True)

    def test_reports_with_parts_of_other_kinds(self):
        machine = Machine(2, [1], [(0, [("alloc", 0, 0)]), (1, [("adopt", 0), ("free", 0)])], pages=1)
        told = report(machine, moves_of("0 0 0 1 1 1"))
        self.assertTrue(check_report(machine, told))
        for path in paths_of(told):
            for value in values_of_other_kinds(part_at(told, path)):
                with self.subTest(path=path, value=value):
                    self.assertIs(check_report(machine, replaced_at(told, path, value)), False)

    def test_reports_with_a_part_left_out_or_doubled(self):
        told = report(MACHINE, MOVES)
        for path in paths_of(told):
            part = part_at(told, path)
            if not isinstance(part, (list, tuple)):
                continue
            for index in range(len(part)):
                for other in (part[:index] + part[index + 1:], part[:index] + part[index:index + 1] + part[index:]):
                    with self.subTest(path=path, index=index):
                        self.assertFalse(check_report(MACHINE, replaced_at(told, path, other)))

    def test_reports_with_the_rows_of_another_run_that_is_the_same(self):
        machine = Machine(2, [2], [(0, [("alloc", 0, 0)]), (1, [("alloc", 0, 1)])], pages=2)
        moves = moves_of("1 0")
        logs, rows, peaks = report(machine, moves)
        self.assertTrue(check_report(machine, (logs, rows, peaks)))
        self.assertNotEqual(ledger(machine, moves), rows)
        self.assertFalse(check_report(machine, (logs, ledger(machine, moves), peaks)))

    def test_reports_with_parts_of_other_runs(self):
        others = [report(MACHINE, MOVES[:many]) for many in range(len(MOVES) + 1)]
        for first in others:
            for second in others:
                for third in others:
                    mixed = (first[0], second[1], third[2])
                    self.assertEqual(check_report(MACHINE, mixed), mixed in others)

    def test_reports_of_other_machines(self):
        told = report(MACHINE, MOVES)
        for other in (changed(MACHINE, pages=2), changed(MACHINE, batch=2), changed(MACHINE, spare=1),
                      changed(MACHINE, classes=[1, 1]), changed(MACHINE, sockets=3), changed(MACHINE, slots=1),
                      changed(MACHINE, threads=[*THREADS, (0, [])]), changed(MACHINE, stops=1)):
            try:
                wanted = report(other, MOVES) == told
            except InvalidRun:
                wanted = False
            self.assertEqual(check_report(other, told), wanted)

    def test_logs_that_are_none(self):
        logs, rows, peaks = report(MACHINE, MOVES)
        for value in [*OTHERS, *STRINGS, 0, [], (), [[]], [[], []], [[], [], [], []], [None, [], []], tuple(logs)]:
            self.assertIs(check_report(MACHINE, (value, rows, peaks)), False)
        self.assertFalse(check_report(MACHINE, ([logs[0], logs[2], logs[1]], rows, peaks)))
        self.assertFalse(check_report(MACHINE, ([logs[0][:2], *logs[1:]], rows, peaks)))

    def test_any_values(self):
        told = report(MACHINE, MOVES)
        for value in [*OTHERS, *STRINGS, 0, 1, (), [], list(told), told[:2], (*told, []), (told,), (None, None, None)]:
            self.assertIs(check_report(MACHINE, value), False)
        for part in [*OTHERS, *STRINGS, 0, 1, (), []]:
            for at in range(3):
                self.assertIs(check_report(MACHINE, replaced_at(told, (at,), part)), False)

    def test_a_report_is_accepted_exactly_if_some_run_has_it(self):
        """Guarantee 11, for all runs of small machines."""
        chooser = random.Random(43)
        machines = accepted = refused = 0
        while machines < 12:
            machine = tiny_machine(chooser)
            runs = all_runs(machine, 150)
            if runs is None or len(runs) < 10:
                continue
            machines += 1
            reports = [report(machine, moves) for moves in runs]
            for told in reports:
                self.assertTrue(check_report(machine, told))
            for _ in range(60):
                other = slightly_changed(chooser, chooser.choice(reports))
                self.assertEqual(check_report(machine, other), other in reports)
                accepted += other in reports
                refused += other not in reports
        self.assertGreater(accepted, 20)
        self.assertGreater(refused, 300)

    def test_arguments_are_not_changed(self):
        told, kept = report(MACHINE, MOVES), report(MACHINE, MOVES)
        check_report(MACHINE, told)
        self.assertEqual(told, kept)


def slightly_changed(chooser, told):
    """Return the report with one integer a little greater or less, or with a part left out."""
    paths = paths_of(told)
    path = chooser.choice(paths[1:])
    part = part_at(told, path)
    if isinstance(part, int):
        return replaced_at(told, path, max(0, part + chooser.choice([-1, 1])))
    if isinstance(part, (list, tuple)) and part:
        return replaced_at(told, path, part[:-1])
    return told


class CleanupTests(unittest.TestCase):
    def test_example_of_the_document(self):
        self.assertEqual(cleanup(MACHINE, MOVES[:5]), moves_of("carry0 sweep0"))
        self.assertEqual(cleanup(MACHINE, MOVES[:6]), moves_of("sweep0"))
        self.assertEqual(cleanup(MACHINE, MOVES), [])
        self.assertEqual(cleanup(MACHINE, tuple(MOVES[:5])), moves_of("carry0 sweep0"))

    def test_nothing_to_clean_up(self):
        for many in range(5):
            self.assertEqual(cleanup(MACHINE, MOVES[:many]), [])

    def test_arrivals_of_a_socket_with_a_running_thread_stay(self):
        machine = changed(MACHINE, threads=[*THREADS, (0, [("free", 1)])])
        self.assertEqual(cleanup(machine, MOVES[:5]), moves_of("carry0"))

    def test_recovers_before_carries_before_sweeps(self):
        threads = [(0, [("alloc", 0, 0), ("alloc", 0, 1)]), (1, [("free", 0)]), (0, [("free", 1)])]
        machine = Machine(2, [1], threads, pages=3, stops=2)
        moves = moves_of("0 0 0 1 1 0 0 stop0 stop2")
        self.assertEqual(machine.moves(machine.after(moves)), moves_of("carry0 recover0 recover2"))
        self.assertEqual(cleanup(machine, moves), moves_of("recover0 recover2 carry0 sweep0"))

    def test_messages_in_their_order(self):
        threads = [(0, [("alloc", 0, 0), ("alloc", 0, 1)]), (1, [("free", 0), ("free", 1)])]
        machine = Machine(2, [1], threads, pages=3)
        moves = moves_of("0 0 0 1 1 0 0 0 1 1")
        self.assertEqual(len(machine.after(moves).flight), 2)
        # Behind the first one, the second one is the first one.
        self.assertEqual(cleanup(machine, moves), moves_of("carry0 carry0 sweep0"))

    def test_sweeps_that_pass_on(self):
        threads = [(0, [("alloc", 0, 0), ("alloc", 0, 1)]), (1, [("free", 0), ("adopt", 1)])]
        machine = Machine(2, [3], threads, pages=1)
        moves = moves_of("0 0 0 0 0 0 1 1 1")
        self.assertEqual(cleanup(machine, moves), moves_of("carry0 sweep0 carry0 sweep1"))

    def test_new_lists_each_time(self):
        cleanup(MACHINE, MOVES[:5]).clear()
        self.assertEqual(cleanup(MACHINE, MOVES[:5]), moves_of("carry0 sweep0"))

    def check(self, machine, moves):
        """Check what the document promises of the state behind a clean-up, and its order."""
        found = cleanup(machine, moves)
        state = machine.after(moves)
        for move in found:
            possible = machine.moves(state)
            first = [other for word in ("recover", "carry", "sweep") for other in possible if other[0] == word]
            self.assertEqual(move, first[0])
            state = machine.step(state, move)[0]
        self.assertEqual([move for move in machine.moves(state) if move[0] in ("recover", "carry", "sweep")], [])
        self.assertTrue(is_good(machine, state))
        self.assertNotIn("stopped", [row[0] for row in state.threads])
        self.assertEqual(state.flight, ())
        running = {thread[0] for thread, row in zip(machine.threads, state.threads) if row[0] == "running"}
        self.assertTrue(all(socket in running for socket, blocks in enumerate(state.arrivals) if blocks))
        return found

    def test_behind_runs_at_any_moment(self):
        chooser = random.Random(44)
        words = set()
        for machine, moves in RUNS:
            for many in {0, len(moves), chooser.randint(0, len(moves)), chooser.randint(0, len(moves))}:
                words |= {word for word, _ in self.check(machine, moves[:many])}
        self.assertEqual(words, {"recover", "carry", "sweep"})

    def test_behind_threads_that_are_stopped_at_any_moment(self):
        chooser = random.Random(45)
        recovered = 0
        for machine, moves in RUNS[:40]:
            moves = [move for move in moves if move[0] not in ("stop", "recover")]
            machine = changed(machine, stops=len(machine.threads))
            for many in range(0, len(moves), 3):
                try:
                    state = machine.after(moves[:many])
                except InvalidRun:
                    break
                running = [thread for thread, row in enumerate(state.threads) if row[0] == "running"]
                stopped = chooser.sample(running, chooser.randint(0, len(running)))
                found = self.check(machine, moves[:many] + [("stop", thread) for thread in stopped])
                self.assertEqual([move for move in found if move[0] == "recover"],
                                 [("recover", thread) for thread in sorted(stopped)])
                recovered += len(stopped)
        self.assertGreater(recovered, 100)

    def test_if_all_threads_are_stopped_everything_comes_home(self):
        chooser = random.Random(46)
        for _ in range(40):
            machine = changed(random_machine(chooser), stops=6)
            state, moves = machine.start, []
            for _ in range(chooser.randint(0, 60)):
                steps = [move for move in machine.moves(state) if move[0] in ("step", "carry")]
                if not steps:
                    break
                moves.append(chooser.choice(steps))
                state = machine.step(state, moves[-1])[0]
            running = [thread for thread, row in enumerate(state.threads) if row[0] == "running"]
            moves.extend([("stop", thread) for thread in running])
            found = self.check(machine, moves)
            state = machine.after(moves + found)
            self.assertEqual(set(state.arrivals), {()})
            self.assertEqual(machine.moves(state), [])


if __name__ == "__main__":
    unittest.main()
