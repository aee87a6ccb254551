"""homefrees.analysis: points [17] and [18], equal runs, their number, and failures."""

import random
import unittest

from homefrees.analysis import first_failure, least_pages, normal_run, run_count, same_runs
from homefrees.errors import InvalidNumber, InvalidRun, LimitExceeded
from homefrees.logs import logs_of, words_of
from homefrees.machine import Machine
from homefrees.search import Search
from support import OTHERS, STRINGS, changed, moves_of, random_runs, tiny_searches

TWO = Machine(2, [2], [(0, [("alloc", 0, 0)]), (1, [("alloc", 0, 1)])], pages=2)
LINE = Machine(1, [2], [(0, [("alloc", 0, 0)])], pages=2)


def owner(move):
    return move[1] if move[0] in ("step", "stop") else "carrier"


def all_runs(machine):
    """Return all runs from the start to states without possible moves, in the order of lists."""
    runs = []

    def go_on(state, moves):
        possible = machine.moves(state)
        if not possible:
            runs.append(moves)
        for move in possible:
            go_on(machine.step(state, move)[0], [*moves, move])

    go_on(machine.start, [])
    return runs


def small_machines(seed, amount, most, faults=(None,)):
    """Return tuples of a machine with at most so many runs, and all these runs."""
    found = []
    for machine, search in tiny_searches(seed, amount, faults):
        if run_count(search) <= most:
            found.append((machine, all_runs(machine)))
    return found


def classes_by_logs(machine, runs):
    """Return the lists of the runs with the same logs."""
    classes = {}
    for run in runs:
        classes.setdefault(repr(logs_of(machine, run)), []).append(run)
    return list(classes.values())


def exchanged(machine, run):
    """Return the runs that come about if two neighbouring moves of different owners without a common word change."""
    found = []
    for index in range(len(run) - 1):
        state = machine.after(run[:index])
        first, second = run[index], run[index + 1]
        if owner(first) == owner(second):
            continue
        words = set(words_of(machine, machine.step(state, first)[0], second)) & set(words_of(machine, state, first))
        other = [*run[:index], second, first, *run[index + 2:]]
        if not words and is_run(machine, other):
            found.append(other)
    return found


def is_run(machine, moves):
    try:
        machine.run(moves)
    except InvalidRun:
        return False
    return True


def classes_by_exchanges(machine, runs):
    """Return the lists of the runs that become each other by exchanges, one after the other."""
    left = {tuple(run): True for run in runs}
    classes = []
    for run in runs:
        if tuple(run) not in left:
            continue
        del left[tuple(run)]
        found, waiting = [], [run]
        while waiting:
            found.append(waiting.pop())
            for other in exchanged(machine, found[-1]):
                if tuple(other) in left:
                    del left[tuple(other)]
                    waiting.append(other)
        classes.append(sorted(found))
    return classes


SMALL = small_machines(31, 90, 250) + [(TWO, all_runs(TWO))]
FAULTY = small_machines(32, 45, 120, ("take", "fill", "batches"))


class SameRunsTests(unittest.TestCase):
    def test_example(self):
        one, two = moves_of("1 0"), moves_of("0 1")
        found = [
            normal_run(TWO, one), same_runs(TWO, one, two), run_count(Search(TWO)), first_failure(TWO), least_pages(TWO),
        ]
        self.assertEqual(found, [[("step", 0), ("step", 1)], True, 20, None, 2])

    def test_runs_that_are_the_same(self):
        self.assertIs(same_runs(TWO, [], []), True)
        self.assertIs(same_runs(TWO, moves_of("0 0 1 1"), moves_of("0 1 0 1")), True)
        self.assertIs(same_runs(TWO, moves_of("0 0 1 1"), tuple(moves_of("0 0 1 1"))), True)

    def test_runs_that_are_not_the_same(self):
        # The same moves, but the pages are opened in another order.
        self.assertIs(same_runs(TWO, moves_of("0 0 1 1"), moves_of("1 1 0 0")), False)
        self.assertIs(same_runs(TWO, moves_of("0 1"), moves_of("0")), False)
        self.assertIs(same_runs(TWO, moves_of("0"), moves_of("1")), False)

    def test_the_same_events_with_other_versions(self):
        machine = Machine(1, [1], [(0, [("drain",)]), (0, [("drain",)])])
        self.assertIs(same_runs(machine, moves_of("0 1"), moves_of("1 0")), False)

    def test_the_same_state_behind_both(self):
        machine = Machine(1, [1], [(0, [("drain",)]), (0, [("drain",)])])
        self.assertEqual(machine.after(moves_of("0 1")), machine.after(moves_of("1 0")))
        self.assertIs(same_runs(machine, moves_of("0 1"), moves_of("1 0")), False)

    def test_a_stop_and_what_it_makes_possible(self):
        machine = Machine(2, [1], [(0, [("alloc", 0, 0)]), (1, [])], stops=1, pages=1)
        first, second = moves_of("0 0 stop0 recover0"), moves_of("0 0 stop0 recover0 sweep0")
        self.assertIs(same_runs(machine, first, second), False)
        self.assertIs(same_runs(machine, second, second), True)

    def test_errors(self):
        for wrong, index in ((None, None), ("step", None), ({}, None), ([("step", 2)], 0), ([("step", 0), 0], 1)):
            with self.assertRaises(InvalidRun) as caught:
                same_runs(TWO, wrong, [])
            self.assertEqual(caught.exception.index, index)
            with self.assertRaises(InvalidRun) as caught:
                same_runs(TWO, [], wrong)
            self.assertEqual(caught.exception.index, index)

    def test_the_first_run_is_checked_first(self):
        for first, second, index in (
            (moves_of("0 0 0 0"), [None], 3), ([None], moves_of("0 0 0 0"), 0), (None, [None], None),
            ([None], None, 0), (moves_of("0 0 0"), None, None),
        ):
            with self.assertRaises(InvalidRun) as caught:
                same_runs(TWO, first, second)
            self.assertEqual(caught.exception.index, index)


class NormalRunTests(unittest.TestCase):
    def test_normal_runs(self):
        self.assertEqual(normal_run(TWO, []), [])
        self.assertEqual(normal_run(TWO, moves_of("1 0 1 0")), moves_of("0 1 1 0"))
        self.assertEqual(normal_run(TWO, moves_of("1 1 0 0 0 1")), moves_of("0 1 1 0 0 1"))
        self.assertEqual(normal_run(TWO, moves_of("0 0 0 1 1 1")), moves_of("0 0 0 1 1 1"))

    def test_a_new_list(self):
        for moves in (moves_of("1 0"), moves_of("0 1")):
            given = list(moves)
            found = normal_run(TWO, given)
            found.append(None)
            self.assertEqual(given, moves)
            self.assertEqual(normal_run(TWO, tuple(moves)), moves_of("0 1"))

    def test_the_order_of_lists_is_that_of_words_and_numbers(self):
        # Of moves without a common word, a carry stands before a step, and a step before a stop.
        machine = Machine(2, [1], [(0, [("alloc", 0, 0)]), (1, [("free", 0)]), (1, [("drain",)])], pages=1, stops=1)
        moves = moves_of("0 0 0 1 1 2 carry0")
        self.assertEqual(normal_run(machine, moves), moves_of("0 0 0 1 1 carry0 2"))
        self.assertEqual(normal_run(machine, moves_of("stop2 0 0")), moves_of("0 0 stop2"))

    def test_an_end_that_makes_a_sweep_possible(self):
        # The last step of thread 0 and the sweep touch no common word, but only this order is possible.
        machine = Machine(2, [1], [
            (0, [("alloc", 0, 0), ("alloc", 0, 2)]), (1, [("free", 0)]), (1, [("free", 1)]),
        ], pages=2, slots=3)
        moves = moves_of("0 0 0 0 0 1 1 carry0 0 sweep0")
        self.assertEqual(machine.step(machine.after(moves[:-2]), moves[-2])[1][0], "hit")
        self.assertEqual(set(words_of(machine, machine.after(moves[:-1]), moves[-1])), {
            ("arrivals", 0), ("flight",), ("pages",),
        })
        found = normal_run(machine, moves)
        self.assertEqual(found[-1], ("sweep", 0))
        self.assertTrue(is_run(machine, found))
        self.assertTrue(same_runs(machine, found, moves))

    def test_beside_all_runs_of_small_machines(self):
        many = 0
        for machine, runs in SMALL + FAULTY:
            for equal in classes_by_logs(machine, runs):
                many += len(equal) > 1
                for run in equal:
                    self.assertEqual(normal_run(machine, run), min(equal))
        self.assertGreater(many, 100)

    def test_beside_the_beginnings_of_all_runs(self):
        for machine, runs in SMALL[::3] + FAULTY[::3]:
            for length in (1, 2, 3, 5, 8):
                beginnings = sorted({tuple(run[:length]) for run in runs if len(run) >= length})
                for equal in classes_by_logs(machine, beginnings):
                    for run in equal:
                        self.assertEqual(normal_run(machine, run), list(min(equal)))

    def test_errors(self):
        for value in OTHERS + STRINGS:
            with self.assertRaises(InvalidRun) as caught:
                normal_run(TWO, value)
            self.assertIsNone(caught.exception.index)
            with self.assertRaises(InvalidRun) as caught:
                normal_run(TWO, [("step", 0), value])
            self.assertEqual(caught.exception.index, 1)


class GuaranteeTests(unittest.TestCase):
    """Guarantee 9: equal runs."""

    def test_the_small_machines_have_many_runs(self):
        self.assertGreater(sum(len(runs) for _, runs in SMALL), 1000)
        self.assertGreater(sum(len(runs) for _, runs in FAULTY), 300)
        words = {event[0] for machine, runs in SMALL for run in runs for _, event in machine.run(run)}
        self.assertTrue({"carry", "stop", "sweep", "send", "hit", "take", "fail"} <= words)

    def test_runs_with_the_same_logs_become_each_other_by_exchanges(self):
        for machine, runs in SMALL:
            by_logs = sorted(classes_by_logs(machine, runs))
            self.assertEqual(sorted(classes_by_exchanges(machine, runs)), by_logs)

    def test_each_class_has_exactly_one_normal_run(self):
        for machine, runs in SMALL:
            normal = [run for run in runs if normal_run(machine, run) == run]
            self.assertEqual(normal, [min(equal) for equal in classes_by_logs(machine, runs)])

    def test_random_runs(self):
        chooser = random.Random(33)
        changes = 0
        for machine, moves in random_runs(34, 120):
            normal = normal_run(machine, moves)
            self.assertTrue(same_runs(machine, moves, normal))
            self.assertEqual(normal_run(machine, normal), normal)
            self.assertLessEqual(normal, moves)
            self.assertEqual(machine.after(normal), machine.after(moves))
            if len(moves) > 40:
                continue
            for other in exchanged(machine, moves)[:3]:
                changes += 1
                self.assertTrue(same_runs(machine, moves, other))
                self.assertEqual(normal_run(machine, other), normal)
            index = chooser.randrange(len(moves) + 1)
            self.assertEqual(normal_run(machine, moves[:index]) == normal, index == len(moves))
        self.assertGreater(changes, 50)

    def test_random_runs_of_machines_with_a_fault(self):
        for fault in ("take", "fill", "batches"):
            for machine, moves in random_runs(35, 40, fault):
                normal = normal_run(machine, moves)
                self.assertTrue(same_runs(machine, moves, normal))
                self.assertLessEqual(normal, moves)


class RunCountTests(unittest.TestCase):
    def test_no_move(self):
        self.assertEqual(run_count(Search(Machine(1, [1], [(0, [])]))), 1)

    def test_one_run(self):
        self.assertEqual(run_count(Search(LINE)), 1)

    def test_beside_all_runs_of_small_machines(self):
        for machine, runs in SMALL + FAULTY:
            self.assertEqual(run_count(Search(machine)), len(runs))

    def test_two_moves_to_the_same_state_are_two_runs(self):
        machine = Machine(1, [1], [(0, [("drain",)]), (0, [("drain",)]), (0, [("drain",)])])
        self.assertEqual(run_count(Search(machine)), 6)

    def test_great_numbers(self):
        # Six threads with so many steps each: the number of the ways to mix them.
        machine = Machine(1, [1], [(0, [("drain",)] * 4)] * 4)
        self.assertEqual(run_count(Search(machine)), 63063000)
        machine = Machine(1, [1], [(0, [("drain",)] * 30)] * 2)
        self.assertEqual(run_count(Search(machine)), 118264581564861424)

    def test_long_runs(self):
        machine = Machine(1, [1], [(0, [("alloc", 0, 0), ("free", 0)] * 15)], pages=1)
        self.assertEqual(run_count(Search(machine)), 1)

    def test_stuck_runs_count(self):
        machine = Machine(1, [1], [(0, [("free", 0)]), (0, [("drain",)])])
        self.assertEqual(run_count(Search(machine)), 1)

    def test_stops(self):
        machine = Machine(1, [1], [(0, [("drain",)])], stops=1)
        # It takes, or it is stopped and recovered.
        self.assertEqual(run_count(Search(machine)), 2)


def failures_of(machine, limit=2000):
    """Return the run to the first state, breadth first, with a move to a failure, with this move, or None."""
    states, keys = [(machine.start, [])], {machine.start.key}
    for state, moves in states:
        for move in machine.moves(state):
            follower, event = machine.step(state, move)
            if event == ("fail",):
                return [*moves, move]
            if follower.key not in keys:
                keys.add(follower.key)
                states.append((follower, [*moves, move]))
    return None


class FirstFailureTests(unittest.TestCase):
    def test_no_failure(self):
        self.assertIsNone(first_failure(LINE))
        self.assertIsNone(first_failure(TWO))
        self.assertIsNone(first_failure(Machine(1, [1], [(0, [])], pages=1)))

    def test_failure_of_an_alloc(self):
        machine = changed(TWO, pages=1)
        self.assertEqual(first_failure(machine), moves_of("0 0 1 1"))
        self.assertEqual(machine.run(first_failure(machine))[-1][1], ("fail",))

    def test_failure_of_a_large_block(self):
        machine = Machine(1, [1], [(0, [("large", 3, 0)])], pages=2)
        self.assertEqual(first_failure(machine), moves_of("0"))
        self.assertIsNone(first_failure(changed(machine, pages=3)))

    def test_a_move_whose_state_was_found_before(self):
        # What counts is the move, whatever led to the state behind it.
        for machine, search in tiny_searches(36, 80):
            self.assertEqual(first_failure(machine), failures_of(machine))

    def test_machines_with_a_fault(self):
        found = 0
        for machine, search in tiny_searches(37, 60, ("take", "fill", "batches")):
            self.assertEqual(first_failure(machine), failures_of(machine))
            found += first_failure(machine) is not None
        self.assertGreater(found, 5)

    def test_the_first_state_and_the_first_move(self):
        machine = Machine(1, [1], [(0, [("large", 2, 1)]), (0, [("large", 2, 0)])], pages=1)
        self.assertEqual(first_failure(machine), moves_of("0"))
        machine = Machine(1, [1], [(0, [("drain",), ("large", 2, 1)]), (0, [("large", 2, 0)])], pages=1)
        self.assertEqual(first_failure(machine), moves_of("1"))

    def test_a_failure_in_one_order_only(self):
        machine = Machine(1, [1], [(0, [("alloc", 0, 0)]), (0, [("large", 1, 1), ("free", 1)])], pages=1)
        self.assertEqual(first_failure(machine), moves_of("0 0 1"))

    def test_limits(self):
        self.assertIsNone(first_failure(LINE, limit=4))
        for limit in (1, 2, 3):
            with self.assertRaises(LimitExceeded) as caught:
                first_failure(LINE, limit=limit)
            self.assertEqual(caught.exception.limit, limit)
        # All states are found first, although the failure is near the start.
        machine = Machine(1, [1], [(0, [("large", 3, 0)]), (0, [("drain",)] * 4)], pages=2)
        self.assertEqual(first_failure(machine, limit=10), moves_of("0"))
        with self.assertRaises(LimitExceeded):
            first_failure(machine, limit=9)
        self.assertIsNone(first_failure(LINE, limit=20000))

    def test_default_limit(self):
        machine = Machine(1, [1], [(0, [("drain",)] * 12)] * 3)
        with self.assertRaises(LimitExceeded) as caught:
            first_failure(machine)
        self.assertEqual(caught.exception.limit, 2000)
        self.assertIsNone(first_failure(machine, limit=2197))

    def test_wrong_limits(self):
        for value in OTHERS + STRINGS + [0, -1, 20001, [], (1,)]:
            for function in (first_failure, least_pages):
                with self.assertRaises(InvalidNumber) as caught:
                    function(LINE, limit=value)
                self.assertIs(caught.exception.value, value)

    def test_the_limit_is_keyword_only(self):
        for function in (first_failure, least_pages):
            with self.assertRaises(TypeError):
                function(LINE, 2000)


class LeastPagesTests(unittest.TestCase):
    def test_one_page(self):
        self.assertEqual(least_pages(LINE), 1)
        self.assertEqual(least_pages(Machine(1, [1], [(0, [])])), 1)

    def test_a_page_for_each_socket(self):
        self.assertEqual(least_pages(TWO), 2)
        self.assertEqual(least_pages(changed(TWO, pages=64)), 2)
        self.assertEqual(least_pages(changed(TWO, sockets=1, threads=[(0, [("alloc", 0, 0), ("alloc", 0, 1)])])), 1)

    def test_none(self):
        self.assertIsNone(least_pages(changed(TWO, pages=1)))
        self.assertIsNone(least_pages(Machine(1, [1], [(0, [("large", 8, 0)])], pages=7)))

    def test_all_pages_of_the_machine(self):
        self.assertEqual(least_pages(changed(TWO, pages=2)), 2)
        self.assertEqual(least_pages(Machine(1, [1], [(0, [("large", 8, 0)])], pages=8)), 8)

    def test_neighbours(self):
        # Behind the free the page between the others is no neighbour of a page of the store.
        machine = Machine(1, [1], [
            (0, [("large", 1, 0), ("large", 1, 1), ("free", 0), ("large", 2, 0)]),
        ], pages=8)
        self.assertEqual(least_pages(machine), 4)

    def test_otherwise_unchanged(self):
        for machine, search in tiny_searches(38, 60, (None, "take", "fill", "batches")):
            expected = None
            for pages in range(machine.pages, 0, -1):
                if failures_of(changed(machine, pages=pages)) is None:
                    expected = pages
            self.assertEqual(least_pages(machine, limit=20000), expected)

    def test_each_parameter_is_kept(self):
        base = Machine(2, [1], [(0, [("alloc", 0, 0), ("free", 0)]), (1, [("alloc", 0, 1)])], pages=4)
        self.assertEqual(least_pages(base), 2)
        # A block kept in a cache or a batch, a spare page, and a failure that a fault brings about.
        one = Machine(1, [1, 1], [(0, [("alloc", 0, 0), ("free", 0), ("drain",), ("alloc", 1, 0)])], pages=3, slots=1)
        self.assertEqual(least_pages(one), 2)
        two = Machine(2, [1], [(0, [("alloc", 0, 0)]), (1, [("free", 0), ("alloc", 0, 1)])], pages=3)
        self.assertEqual(least_pages(two), 2)
        spare = Machine(2, [1], [
            (0, [("alloc", 0, 0)]), (1, [("adopt", 0), ("free", 0)]), (0, [("large", 1, 0), ("free", 0)]),
        ], pages=4)
        for machine in (base, one, two, spare):
            for parameters in (
                {"spare": 1}, {"batch": 2}, {"slots": 8}, {"stops": 1}, {"fault": "take"}, {"fault": "fill"},
                {"fault": "batches"},
            ):
                other = changed(machine, **parameters)
                expected = [pages for pages in range(1, 5) if failures_of(changed(other, pages=pages)) is None]
                found = least_pages(changed(other, pages=4), limit=20000)
                self.assertEqual(found, expected[0] if expected else None)

    def test_limits(self):
        self.assertEqual(least_pages(LINE, limit=4), 1)
        with self.assertRaises(LimitExceeded) as caught:
            least_pages(LINE, limit=3)
        self.assertEqual(caught.exception.limit, 3)

    def test_only_the_searches_that_are_made_raise(self):
        # With more pages there are more states, but the number is found before.
        machine = Machine(1, [1], [(0, [("large", 1, 0), ("grow", 0)]), (0, [("drain",)])], pages=2)
        totals = [Search(changed(machine, pages=pages)).total for pages in (1, 2)]
        self.assertEqual(least_pages(machine, limit=totals[0]), 1)
        machine = Machine(1, [1], [(0, [("alloc", 0, 0), ("alloc", 0, 1)])], pages=3)
        totals = [Search(changed(machine, pages=pages)).total for pages in (1, 2, 3)]
        self.assertEqual(totals[1], totals[2])
        self.assertLess(totals[0], totals[1])
        self.assertEqual(least_pages(machine, limit=totals[1]), 2)
        with self.assertRaises(LimitExceeded):
            least_pages(machine, limit=totals[1] - 1)


if __name__ == "__main__":
    unittest.main()
