"""homefrees.schedules: point [16], schedules, bad runs, and how they are made shorter."""

import unittest

from homefrees.errors import InvalidNumber, InvalidRun
from homefrees.machine import Machine
from homefrees.places import is_bad
from homefrees.schedules import first_bad, run_without, schedule, shrunk
from support import OTHERS, STRINGS, changed, moves_of, random_runs

PAIR = Machine(2, [1], [(0, [("alloc", 0, 0)]), (1, [("free", 0)])], pages=1)
LOSING = changed(PAIR, batch=2, fault="batches")
DRAINS = Machine(1, [1], [(0, [("drain",)] * many) for many in (2, 0, 3, 1)])


class ScheduleTests(unittest.TestCase):
    def assert_schedule(self, machine, rule, text):
        self.assertEqual(schedule(machine, rule), moves_of(text))

    def test_example(self):
        self.assertEqual(schedule(LOSING, "turns"), moves_of("0 0 0 1 1"))
        self.assertEqual(schedule(Machine(1, [1], [(0, [])]), "late"), [])

    def test_no_moves(self):
        for rule in ("first", "turns", "late"):
            self.assertEqual(schedule(Machine(1, [1], [(0, []), (0, [("free", 0)])]), rule), [])

    def test_first(self):
        self.assert_schedule(DRAINS, "first", "0 0 2 2 2 3")
        # Carrying comes before steps, and sweeping behind them.
        machine = changed(PAIR, threads=PAIR.threads + ((1, [("drain",)] * 2),))
        self.assert_schedule(machine, "first", "0 0 0 1 1 carry0 2 2 sweep0")

    def test_turns(self):
        self.assert_schedule(DRAINS, "turns", "0 2 3 0 2 2")
        machine = changed(PAIR, threads=PAIR.threads + ((1, [("drain",)] * 2),))
        # While thread 1 waits, it is left out; the messages come when no thread can step.
        self.assert_schedule(machine, "turns", "0 2 0 2 0 1 1 carry0 sweep0")

    def test_turns_go_on_behind_the_thread_that_stepped_last(self):
        machine = Machine(1, [1], [(0, [("free", 0)]), (0, [("large", 1, 0), ("drain",)]), (0, [("drain",)] * 2)])
        self.assert_schedule(machine, "turns", "1 2 0 1 2")
        machine = Machine(2, [1], [
            (0, [("alloc", 0, 0)]), (1, [("free", 0), ("drain",)]), (0, [("drain",)]),
        ])
        self.assert_schedule(machine, "turns", "0 2 0 0 1 1 1 carry0 sweep0")

    def test_late(self):
        self.assert_schedule(DRAINS, "late", "0 0 2 2 2 3")
        # The first possible step, and only then the last one of the other moves.
        machine = Machine(2, [1], [
            (0, [("alloc", 0, 0), ("alloc", 0, 1)]), (1, [("free", 0), ("free", 1)]), (1, [("drain",)]),
        ])
        self.assert_schedule(machine, "late", "0 0 0 0 0 0 1 1 1 1 2 carry1 sweep0 carry0 sweep0")
        self.assert_schedule(machine, "first", "0 0 0 0 0 0 1 1 carry0 1 1 carry0 2 sweep0")

    def test_no_stops(self):
        for rule in ("first", "turns", "late"):
            self.assertEqual(schedule(changed(PAIR, stops=6), rule), schedule(PAIR, rule))

    def test_runs_to_a_state_in_which_only_stops_are_possible(self):
        for machine, _ in random_runs(61, 60):
            for rule in ("first", "turns", "late"):
                moves = schedule(machine=machine, rule=rule)
                self.assertNotIn("stop", [word for word, _ in moves])
                self.assertEqual({word for word, _ in machine.moves(machine.after(moves))} - {"stop"}, set())

    def test_choices_of_the_rules(self):
        for machine, _ in random_runs(62, 60):
            for rule in ("first", "turns", "late"):
                state, last = machine.start, -1
                for move in schedule(machine, rule):
                    possible = [other for other in machine.moves(state) if other[0] != "stop"]
                    steps = [other for other in possible if other[0] == "step"]
                    if rule == "first" or (rule == "turns" and not steps):
                        expected = possible[0]
                    elif rule == "late":
                        expected = steps[0] if steps else possible[-1]
                    else:
                        behind = [other for other in steps if other[1] > last]
                        expected = (behind + steps)[0]
                    self.assertEqual(move, expected)
                    last = move[1] if move[0] == "step" else last
                    state = machine.step(state, move)[0]

    def test_other_values(self):
        for value in OTHERS + STRINGS + [0, [], ["first"], ("first",), "First", "first ", "last", "turn"]:
            with self.subTest(value=value):
                with self.assertRaises(InvalidNumber) as caught:
                    schedule(PAIR, value)
                self.assertIs(caught.exception.value, value)

    def test_returned_list_is_new(self):
        schedule(PAIR, "first").append("changed")
        self.assertEqual(schedule(PAIR, "first"), moves_of("0 0 0 1 1 carry0 sweep0"))


class FirstBadTests(unittest.TestCase):
    def test_number_of_moves(self):
        self.assertEqual(first_bad(LOSING, moves_of("0 0 0 1 1")), 5)
        self.assertEqual(first_bad(machine=LOSING, moves=tuple(moves_of("0 0 0 1 1"))), 5)
        self.assertIsNone(first_bad(LOSING, moves_of("0 0 0 1")))
        self.assertIsNone(first_bad(LOSING, []))

    def test_first_time(self):
        machine = changed(LOSING, threads=LOSING.threads + ((0, [("drain",)] * 2),))
        self.assertEqual(first_bad(machine, moves_of("2 0 0 0 1 1 2")), 6)
        self.assertEqual(first_bad(machine, moves_of("0 0 0 1 1 2 2")), 5)

    def test_first_of_the_bad_states(self):
        for machine, moves in random_runs(63, 60, "take"):
            states = [machine.start] + [state for state, _ in machine.run(moves)]
            bad = [number for number, state in enumerate(states) if is_bad(machine, state)]
            self.assertEqual(first_bad(machine, moves), bad[0] if bad else None)

    def test_machine_without_a_fault(self):
        for machine, moves in random_runs(64, 20):
            self.assertIsNone(first_bad(machine, moves))
            self.assertIsNone(shrunk(machine, moves))

    def test_runs_that_are_not_possible(self):
        for function in (first_bad, shrunk):
            for machine in (PAIR, LOSING):
                for moves, index in (([("step", 1)], 0), (moves_of("0 0 0 1 1 1"), 5), ([("step", False)], 0),
                                     (None, None), ("", None), ({}, None)):
                    if machine is PAIR and index == 5:
                        continue
                    with self.assertRaises(InvalidRun) as caught:
                        function(machine, moves)
                    self.assertEqual(caught.exception.index, index)


def shrunk_by_the_words(machine, moves):
    """Return what the document says word by word, without any short cut."""
    def bad_after(run):
        try:
            return first_bad(machine, run)
        except InvalidRun:
            return None

    number = bad_after(moves)
    if number is None:
        return None
    run = list(moves[:number])
    while True:
        left_out = False
        at = len(run) - 1
        while at >= 0:
            rest = run[:at] + run[at + 1:]
            number = bad_after(rest)
            if number is not None:
                run, left_out = rest[:number], True
            at = min(at - 1, len(run) - 1)
        if not left_out:
            return run


class ShrunkTests(unittest.TestCase):
    def test_no_bad_state(self):
        self.assertIsNone(shrunk(PAIR, moves_of("0 0 0 1 1 carry0 sweep0")))
        self.assertIsNone(shrunk(LOSING, moves_of("0 0 0 1")))
        self.assertIsNone(shrunk(LOSING, []))

    def test_run_that_cannot_become_shorter(self):
        moves = moves_of("0 0 0 1 1")
        self.assertEqual(shrunk(LOSING, moves), moves)
        self.assertEqual(shrunk(machine=LOSING, moves=tuple(moves)), moves)

    def test_run_is_cut_behind_its_first_bad_state(self):
        machine = changed(LOSING, threads=LOSING.threads + ((0, [("drain",)] * 2),))
        self.assertEqual(shrunk(machine, moves_of("0 0 0 1 1 2 2")), moves_of("0 0 0 1 1"))

    def test_moves_that_are_not_needed_are_left_out(self):
        machine = changed(LOSING, stops=1, threads=LOSING.threads + ((0, [("drain",)] * 3),))
        self.assertEqual(shrunk(machine, moves_of("2 0 2 0 0 stop2 1 recover2 1")), moves_of("0 0 0 1 1"))

    def test_the_last_move_is_left_out_first(self):
        # The stop can be left out only without the recovery behind it.
        machine = changed(LOSING, stops=1, threads=LOSING.threads + ((1, [("drain",)]),))
        self.assertEqual(shrunk(machine, moves_of("stop2 recover2 0 0 0 1 1")), moves_of("0 0 0 1 1"))

    def test_rest_is_cut_behind_its_first_bad_state(self):
        # Without the adoption, thread 1 drops a batch one step earlier, and another one behind it.
        machine = Machine(3, [1], [
            (0, [("alloc", 0, 0)]), (1, [("free", 0), ("free", 1)]), (1, [("adopt", 0)]), (2, [("alloc", 0, 1)]),
        ], batch=2, fault="batches")
        moves = moves_of("0 0 0 3 3 3 2 1 1 1 1")
        self.assertEqual(first_bad(machine, moves), 11)
        self.assertEqual(shrunk(machine, moves), moves_of("0 0 0 3 3 3 1 1 1"))
        self.assertEqual(
            run_without(machine, machine.after(moves[:6]), moves, 6), moves_of("0 0 0 3 3 3 1 1 1"),
        )

    def test_moves_that_can_be_left_out_only_behind_others_before_them(self):
        machine = Machine(2, [2, 3], [
            (0, [("alloc", 0, 0), ("alloc", 0, 0), ("adopt", 0), ("alloc", 0, 0), ("adopt", 0), ("grow", 0)]),
            (1, [("grow", 0), ("free", 0), ("free", 0), ("adopt", 0)]),
        ], pages=1, slots=1, fault="take")
        moves = moves_of("0 0 0 0 1 0 1 0 0 0 1 0 carry0 0 1 1 carry0 0")
        once = moves_of("0 0 0 0 1 0 1 0 0 0 0 0 1 1 carry0 0")
        twice = moves_of("0 0 0 0 1 0 1 0 0 0 0 0 1 carry0 0")
        self.assertEqual(shrunk_by_the_words(machine, moves), twice)
        self.assertEqual([shrunk(machine, moves), shrunk(machine, once)], [twice, twice])

    def test_words_of_the_document(self):
        shorter = 0
        for fault in ("take", "fill", "batches"):
            for machine, moves in random_runs(65, 60, fault):
                found = shrunk(machine, moves)
                self.assertEqual(found, shrunk_by_the_words(machine, moves))
                if found is not None:
                    self.assertEqual(first_bad(machine, found), len(found))
                    shorter += len(found) < first_bad(machine, moves)
        self.assertGreater(shorter, 10)

    def test_no_move_can_be_left_out_any_more(self):
        for machine, moves in random_runs(66, 40, "batches"):
            found = shrunk(machine, moves)
            for at in range(len(found or [])):
                rest = found[:at] + found[at + 1:]
                try:
                    self.assertIsNone(first_bad(machine, rest))
                except InvalidRun:
                    pass

    def test_argument_is_not_modified(self):
        moves = moves_of("0 0 0 1 1")
        shrunk(LOSING, moves).append("changed")
        self.assertEqual(moves, moves_of("0 0 0 1 1"))


if __name__ == "__main__":
    unittest.main()
