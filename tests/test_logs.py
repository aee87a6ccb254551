"""homefrees.logs: point [12], the words that a move touches, logs, and how they are merged."""

import random
import unittest

from homefrees.errors import InvalidLogs, InvalidMove, InvalidRun
from homefrees.logs import logs_of, merged, words_of
from homefrees.machine import Machine
from support import OTHERS, STRINGS, changed, moves_of, random_runs, tiny_machine

FLIGHT, PAGES, STOPS = ("flight",), ("pages",), ("stops",)

LINE = Machine(1, [2], [(0, [("alloc", 0, 0)])], pages=2)
PAIR = Machine(2, [1], [(0, [("alloc", 0, 0)]), (1, [("free", 0)])], pages=1)
PAIR_MOVES = moves_of("0 0 0 1 1 carry0 sweep0")


def slot(number):
    return ("slot", number)


def arrivals(socket):
    return ("arrivals", socket)


class WordsTests(unittest.TestCase):
    def assert_words(self, machine, text, event, words):
        """The last one of the moves has this event, and touches these words."""
        moves = moves_of(text)
        state = machine.after(moves[:-1])
        with self.subTest(event=event):
            self.assertEqual(machine.step(state, moves[-1])[1][0], event)
            self.assertEqual(words_of(machine, state, moves[-1]), words)

    def test_alloc(self):
        machine = Machine(2, [1], [(1, [("alloc", 0, 3), ("alloc", 0, 2)])], pages=1, slots=4)
        self.assert_words(machine, "0", "take", [arrivals(1)])
        self.assert_words(machine, "0 0", "open", [PAGES])
        self.assert_words(machine, "0 0 0", "hit", [slot(3)])
        self.assert_words(machine, "0 0 0 0", "take", [arrivals(1)])
        self.assert_words(machine, "0 0 0 0 0", "fail", [PAGES, slot(2)])
        machine = changed(machine, classes=[2])
        self.assert_words(machine, "0 0 0 0 0", "fill", [PAGES])

    def test_free(self):
        machine = Machine(1, [3], [
            (0, [("alloc", 0, 0), ("alloc", 0, 1), ("free", 0), ("free", 1), ("large", 4, 0), ("free", 0)]),
        ])
        begin = "0 0 0 0 0 0 "
        self.assert_words(machine, begin + "0", "keep", [PAGES, slot(0)])
        self.assert_words(machine, begin + "0 0", "home", [PAGES, slot(1)])
        self.assert_words(machine, begin + "0 0 0", "fail", [PAGES, slot(0)])
        self.assert_words(machine, begin + "0 0 0 0", "nothing", [PAGES, slot(0)])

    def test_free_of_another_home(self):
        machine = Machine(2, [2], [(0, [("alloc", 0, 1)]), (1, [("free", 1)])])
        self.assert_words(machine, "0 0 0 1", "batch", [PAGES, slot(1)])
        self.assert_words(machine, "0 0 0 1 1", "send", [FLIGHT])

    def test_adopt_large_and_grow(self):
        machine = Machine(1, [2], [
            (0, [("alloc", 0, 1), ("adopt", 1), ("grow", 1), ("large", 1, 0), ("grow", 0), ("adopt", 0), ("free", 0)]),
        ])
        self.assert_words(machine, "0 0 0 0", "adopt", [PAGES, slot(1)])
        self.assert_words(machine, "0 0 0 0 0", "nothing", [PAGES, slot(1)])
        self.assert_words(machine, "0 0 0 0 0 0", "large", [PAGES, slot(0)])
        self.assert_words(machine, "0 0 0 0 0 0 0", "grow", [PAGES, slot(0)])
        self.assert_words(machine, "0 0 0 0 0 0 0 0", "nothing", [PAGES, slot(0)])
        self.assert_words(machine, "0 0 0 0 0 0 0 0 0", "return", [PAGES, slot(0)])

    def test_home_and_pass_from_a_hand(self):
        machine = Machine(2, [2], [
            (0, [("alloc", 0, 0), ("alloc", 0, 1)]), (1, [("free", 0), ("adopt", 1)]), (0, [("alloc", 0, 0)]),
            (0, [("drain",)]),
        ])
        begin = "0 0 0 0 0 0 1 1 carry0 "
        self.assert_words(machine, begin + "2 2", "home", [PAGES])
        self.assert_words(machine, begin + "3 3", "home", [PAGES])
        self.assert_words(machine, begin + "1 2 2", "pass", [FLIGHT, PAGES])
        self.assert_words(machine, begin + "1 3 3", "pass", [FLIGHT, PAGES])

    def test_end(self):
        machine = Machine(3, [4], [(0, [("alloc", 0, 0)]), (2, [("adopt", 0)]), (1, [("free", 0)])], batch=2)
        self.assert_words(machine, "0 0 0 0", "home", [PAGES])
        self.assert_words(machine, "0 0 0 1 0", "pass", [FLIGHT, PAGES])
        self.assert_words(machine, "0 0 0 2 2", "send", [FLIGHT])

    def test_drain(self):
        machine = Machine(3, [1], [(2, [("drain",)])])
        self.assert_words(machine, "0", "take", [arrivals(2)])

    def test_other_moves(self):
        machine = Machine(3, [2], [(1, [("alloc", 0, 0)]), (0, [("free", 0)]), (2, [("drain",)])], stops=1)
        self.assert_words(machine, "0 0 0 1 1 carry0", "carry", [arrivals(1), FLIGHT])
        self.assert_words(machine, "0 0 0 1 1 carry0 sweep1", "sweep", [arrivals(1), FLIGHT, PAGES])
        self.assert_words(machine, "stop2", "stop", [STOPS])
        self.assert_words(machine, "stop2 recover2", "recover", [arrivals(0), arrivals(1), arrivals(2), PAGES])

    def test_faults(self):
        program = [("alloc", 0, 0), ("drain",)]
        machine = Machine(2, [4], [(1, program)], fault="take")
        self.assert_words(machine, "0", "read", [arrivals(1)])
        self.assert_words(machine, "0 0", "clear", [arrivals(1)])
        self.assert_words(machine, "0 0 0 0 0", "read", [arrivals(1)])
        self.assert_words(machine, "0 0 0 0 0 0", "clear", [arrivals(1)])
        machine = Machine(1, [2], [(0, [("alloc", 0, 0), ("alloc", 0, 1)])], fault="fill")
        self.assert_words(machine, "0 0 0 0 0", "look", [PAGES])
        self.assert_words(machine, "0 0 0 0 0 0", "fill", [PAGES])
        machine = Machine(2, [2], [(0, [("alloc", 0, 0)]), (1, [("free", 0)])], batch=2, fault="batches")
        self.assert_words(machine, "0 0 0 1 1", "drop", [])

    def test_vanish(self):
        machine = Machine(1, [2, 1], [
            (0, [("alloc", 0, 0), ("free", 0)]), (0, [("alloc", 0, 1), ("free", 1), ("drain",)]),
        ], fault="fill")
        self.assert_words(machine, "0 0 0 1 1 0 0 1 1 1", "vanish", [PAGES, slot(1)])
        machine = Machine(1, [4], [(0, [("alloc", 0, 0), ("free", 0)]), (0, [("alloc", 0, 1)])], batch=2, fault="fill")
        self.assert_words(machine, "0 0 0 1 1 0 0 0 1 1 1", "vanish", [PAGES])

    def test_list_is_sorted_and_new(self):
        for machine, moves in random_runs(51, 10):
            state = machine.start
            for move in moves:
                words = words_of(machine=machine, state=state, move=move)
                self.assertEqual(words, sorted(words))
                words.append("changed")
                self.assertNotIn("changed", words_of(machine, state, move))
                state = machine.step(state, move)[0]

    def test_moves_that_are_not_possible(self):
        wrong = [0, (), [], ["step", 0], ("step", 1), ("step", False), ("carry", 0), ("stop", 0)]
        for move in OTHERS + STRINGS + wrong:
            with self.subTest(move=move):
                with self.assertRaises(InvalidMove) as caught:
                    words_of(LINE, LINE.start, move)
                self.assertIs(caught.exception.move, move)


class LogsTests(unittest.TestCase):
    def test_example(self):
        logs = logs_of(LINE, [("step", 0)] * 2)
        self.assertEqual(logs, [
            [
                (("step", 0), ("take", 0), ((("arrivals", 0), 0),)),
                (("step", 0), ("open", 0), ((("pages",), 0),)),
            ],
            [],
        ])
        self.assertEqual(merged(LINE, logs), ("run", [("step", 0), ("step", 0)]))
        self.assertEqual(merged(LINE, [logs[0][1:], []]), ("stuck", [0, 0]))

    def test_versions_count_the_moves_before(self):
        self.assertEqual(logs_of(PAIR, PAIR_MOVES), [
            [
                (("step", 0), ("take", 0), ((arrivals(0), 0),)),
                (("step", 0), ("open", 0), ((PAGES, 0),)),
                (("step", 0), ("hit", (0, 0)), ((slot(0), 0),)),
            ],
            [
                (("step", 1), ("batch", (0, 0)), ((PAGES, 1), (slot(0), 1))),
                (("step", 1), ("send", 0, 1), ((FLIGHT, 0),)),
            ],
            [
                (("carry", 0), ("carry", 0, 1), ((arrivals(0), 1), (FLIGHT, 1))),
                (("sweep", 0), ("sweep", 1), ((arrivals(0), 2), (FLIGHT, 2), (PAGES, 2))),
            ],
        ])

    def test_stops_are_in_the_log_of_the_thread_and_recoveries_in_that_of_the_carrier(self):
        machine = Machine(1, [1], [(0, [("drain",)]), (0, [("drain",)])], stops=2)
        logs = logs_of(machine, moves_of("stop1 recover1 stop0"))
        self.assertEqual(logs, [
            [(("stop", 0), ("stop", 0), ((STOPS, 1),))],
            [(("stop", 1), ("stop", 1), ((STOPS, 0),))],
            [(("recover", 1), ("recover", 0), ((arrivals(0), 0), (PAGES, 0)))],
        ])

    def test_move_without_words(self):
        machine = changed(PAIR, batch=2, fault="batches")
        self.assertEqual(logs_of(machine, moves_of("0 0 0 1 1"))[1][1], (("step", 1), ("drop", 0, 1), ()))

    def test_no_moves(self):
        self.assertEqual(logs_of(PAIR, []), [[], [], []])
        self.assertEqual(logs_of(machine=PAIR, moves=()), [[], [], []])

    def test_versions_by_their_definition(self):
        for machine, moves in random_runs(52, 20):
            logs = [list(log) for log in logs_of(machine, moves)]
            versions = {}
            state = machine.start
            for move in moves:
                words = words_of(machine, state, move)
                follower, event = machine.step(state, move)
                log = logs[move[1] if move[0] in ("step", "stop") else -1]
                self.assertEqual(log.pop(0), (move, event, tuple((word, versions.get(word, 0)) for word in words)))
                for word in words:
                    versions[word] = versions.get(word, 0) + 1
                state = follower
            self.assertEqual(logs, [[] for _ in logs])

    def test_returned_lists_are_new(self):
        found = logs_of(PAIR, PAIR_MOVES)
        found[0].append("changed")
        found.append("changed")
        self.assertEqual([len(log) for log in logs_of(PAIR, PAIR_MOVES)], [3, 2, 2])

    def test_runs_that_are_not_possible(self):
        wrong = [([("step", 2)], 0), (moves_of("0 0 1"), 2), ([("step", False)], 0), (None, None), ("", None)]
        for moves, index in wrong:
            with self.assertRaises(InvalidRun) as caught:
                logs_of(PAIR, moves)
            self.assertEqual(caught.exception.index, index)


class MergedTests(unittest.TestCase):
    LOGS = logs_of(PAIR, PAIR_MOVES)

    def assert_merged(self, logs, expected, machine=PAIR):
        self.assertEqual(merged(machine, logs), expected)

    def test_first_log_that_fits_is_taken(self):
        machine = Machine(1, [1], [(0, [("adopt", 0)]), (0, [("drain",)] * 2), (0, [("large", 1, 0)])])
        logs = logs_of(machine, moves_of("1 2 1 0"))
        # Thread 0 waits for thread 2, and thread 1 need not wait.
        self.assert_merged(logs, ("run", moves_of("1 1 2 0")), machine)

    def test_carrier_comes_last(self):
        machine = changed(PAIR, threads=PAIR.threads + ((1, [("drain",)] * 2),))
        logs = logs_of(machine, PAIR_MOVES + moves_of("2 2"))
        self.assert_merged(logs, ("run", moves_of("0 0 0 1 1 2 2 carry0 sweep0")), machine)

    def test_logs_of_another_machine(self):
        machine = changed(PAIR, spare=1, threads=PAIR.threads + ((1, [("large", 1, 1)]),))
        logs = logs_of(changed(machine, spare=0), PAIR_MOVES + moves_of("2"))
        # With a spare page the large block does not fit.
        self.assert_merged(logs, ("stuck", [3, 2, 0, 2]), machine)

    def test_lists_and_tuples(self):
        expected = ("run", PAIR_MOVES)
        self.assert_merged(self.LOGS, expected)
        self.assert_merged(tuple(self.LOGS), expected)
        self.assert_merged([tuple(log) for log in self.LOGS], expected)
        self.assertEqual(merged(machine=PAIR, logs=self.LOGS), expected)

    def test_no_entries(self):
        self.assert_merged([[], [], []], ("run", []))
        self.assert_merged(((), [], ()), ("run", []))

    def test_logs_of_the_beginning_of_a_run(self):
        for many in range(len(PAIR_MOVES) + 1):
            self.assert_merged(logs_of(PAIR, PAIR_MOVES[:many]), ("run", PAIR_MOVES[:many]))

    def test_logs_of_runs_with_faults(self):
        for fault in ("take", "fill", "batches"):
            for machine, moves in random_runs(53, 30, fault):
                logs = logs_of(machine, moves)
                word, found = merged(machine, logs)
                self.assertEqual(word, "run")
                self.assertEqual(logs_of(machine, found), logs)

    def changed_at(self, log, at, entry):
        logs = [list(rows) for rows in self.LOGS]
        logs[log][at] = entry
        return logs

    def stuck_at(self, log, at):
        """Return the positions when the entry is the first one of the run that does not fit."""
        positions = [0, 0, 0]
        for owner in [0, 0, 0, 1, 1, 2, 2]:
            if positions[owner] == at and owner == log:
                return ("stuck", positions)
            positions[owner] += 1

    def test_one_thing_of_an_entry_changed(self):
        for log, rows in enumerate(self.LOGS):
            for at, (move, event, versions) in enumerate(rows):
                word, version = versions[0]
                wrong = [
                    (move, event, ((word, version + 1), *versions[1:])),
                    (move, event, ((word, -1), *versions[1:])),
                    (move, event, ((("slot", 1), version), *versions[1:])),
                    (move, event, versions + ((STOPS, 0),)),
                    (move, event, versions[1:]),
                    (move, event, versions[::-1] + versions),
                    (move, event + (0,), versions),
                    (move, ("nothing",), versions),
                    (move, ("stop", *event[1:]), versions),
                    (move, event, (((word[0] + "s", *word[1:]), version), *versions[1:])),
                    (move, event[:-1] + (7,), versions),
                    (move, event[:-1], versions),
                    ((move[0], move[1] + 1), event, versions),
                    (("stop", move[1]), event, versions),
                    (event, move, versions),
                    (move, event),
                    (move, event, versions, 0),
                    (),
                ]
                for entry in wrong:
                    with self.subTest(entry=entry):
                        self.assert_merged(self.changed_at(log, at, entry), self.stuck_at(log, at))

    def test_kinds_of_an_entry_changed(self):
        for log, rows in enumerate(self.LOGS):
            for at, entry in enumerate(rows):
                for wrong in self.other_kinds(entry):
                    if wrong is not entry:
                        with self.subTest(entry=wrong):
                            self.assert_merged(self.changed_at(log, at, wrong), self.stuck_at(log, at))

    def other_kinds(self, value):
        """Return what differs from the value in the kind of one part."""
        if type(value) is tuple:
            found = [list(value)]
            for at, part in enumerate(value):
                found += [value[:at] + (other,) + value[at + 1:] for other in self.other_kinds(part)]
            return found
        if type(value) is str:
            return [value.encode(), (value,)]
        return [str(value), (value,)] + ([bool(value)] if value in (0, 1) else [])

    def test_true_and_false_are_no_integers(self):
        move, event, versions = self.LOGS[0][0]
        self.assert_merged(self.changed_at(0, 0, (("step", False), event, versions)), ("stuck", [0, 0, 0]))
        self.assert_merged(self.changed_at(0, 0, (move, ("take", False), versions)), ("stuck", [0, 0, 0]))
        self.assert_merged(self.changed_at(0, 0, (move, event, ((arrivals(0), False),))), ("stuck", [0, 0, 0]))
        self.assert_merged(self.changed_at(0, 0, (move, event, ((("arrivals", False), 0),))), ("stuck", [0, 0, 0]))

    def test_entries_of_any_value(self):
        for value in OTHERS + STRINGS + [0, (), [], [[]], ((), (), ()), ([], [], []), ({}, {}, {}), (None, None, None)]:
            with self.subTest(value=value):
                self.assert_merged([[value], [], []], ("stuck", [0, 0, 0]))
                self.assert_merged([[], [], [value]], ("stuck", [0, 0, 0]))
                self.assert_merged([self.LOGS[0] + [value], [], []], ("stuck", [3, 0, 0]))

    def test_entries_left_out(self):
        for log, rows in enumerate(self.LOGS):
            for at in range(len(rows) - 1):
                logs = [list(entries) for entries in self.LOGS]
                del logs[log][at]
                with self.subTest(log=log, at=at):
                    self.assert_merged(logs, self.stuck_at(log, at))
        # Without the last entry of a log, the logs that need it are stuck.
        self.assert_merged([self.LOGS[0][:2], *self.LOGS[1:]], ("stuck", [2, 0, 0]))
        self.assert_merged([self.LOGS[0], self.LOGS[1][:1], self.LOGS[2]], ("stuck", [3, 1, 0]))
        self.assert_merged([*self.LOGS[:2], self.LOGS[2][:1]], ("run", PAIR_MOVES[:6]))

    def test_entries_exchanged(self):
        for log, rows in enumerate(self.LOGS):
            for at in range(len(rows) - 1):
                logs = [list(entries) for entries in self.LOGS]
                logs[log][at], logs[log][at + 1] = logs[log][at + 1], logs[log][at]
                with self.subTest(log=log, at=at):
                    self.assert_merged(logs, self.stuck_at(log, at))

    def test_entries_doubled(self):
        for log, rows in enumerate(self.LOGS):
            for at, entry in enumerate(rows):
                logs = [list(entries) for entries in self.LOGS]
                logs[log].insert(at, entry)
                with self.subTest(log=log, at=at):
                    word, positions = merged(PAIR, logs)
                    self.assertEqual([word, positions[log]], ["stuck", at + 1])

    def test_entry_in_another_log(self):
        for log, rows in enumerate(self.LOGS):
            for at in range(len(rows)):
                for other in range(3):
                    logs = [list(entries) for entries in self.LOGS]
                    logs[other].append(logs[log].pop(at))
                    if logs != [list(entries) for entries in self.LOGS]:
                        self.assertEqual(merged(PAIR, logs)[0], "stuck")
        # Even if the move is the next one that is possible.
        machine = Machine(1, [1], [(0, [("drain",)]), (0, [("large", 1, 0)])], stops=1)
        entry = logs_of(machine, moves_of("1"))[1][0]
        self.assert_merged([[entry], [], []], ("stuck", [0, 0, 0]), machine)
        self.assert_merged([[], [], [entry]], ("stuck", [0, 0, 0]), machine)
        self.assert_merged([[], [entry], []], ("run", moves_of("1")), machine)
        entry = logs_of(machine, moves_of("stop1"))[1][0]
        self.assert_merged([[], [], [entry]], ("stuck", [0, 0, 0]), machine)

    def test_positions_behind_what_was_taken(self):
        logs = [list(rows) for rows in self.LOGS]
        logs[2][1] = ("wrong",)
        self.assert_merged(logs, ("stuck", [3, 2, 1]))

    def test_accepted_logs_are_those_of_the_run(self):
        chooser = random.Random(54)
        accepted = 0
        for _ in range(300):
            machine = tiny_machine(chooser)
            state, moves = machine.start, []
            while machine.moves(state):
                moves.append(chooser.choice(machine.moves(state)))
                state = machine.step(state, moves[-1])[0]
            logs = logs_of(machine, moves)
            for _ in range(chooser.randint(0, 2)):
                log = chooser.choice(logs)
                if log:
                    change = chooser.choice(["pop", "cut", "add"])
                    if change == "pop":
                        log.pop(chooser.randrange(len(log)))
                    elif change == "cut":
                        del log[chooser.randrange(len(log)):]
                    else:
                        log.insert(chooser.randrange(len(log)), chooser.choice(log))
            word, found = merged(machine, logs)
            if word == "run":
                accepted += 1
                self.assertEqual(logs_of(machine, found), logs)
            else:
                self.assertTrue(all(at <= len(log) for at, log in zip(found, logs)))
                self.assertNotEqual(found, [len(log) for log in logs])
        self.assertGreater(accepted, 30)

    def test_values_that_are_no_logs(self):
        values = OTHERS + STRINGS + [0, 3, [], (), [[]], [[], []], [[], [], [], []], ((), ()), {0: [], 1: [], 2: []}]
        for value in values:
            with self.subTest(value=value):
                with self.assertRaises(InvalidLogs) as caught:
                    merged(PAIR, value)
                self.assertIsNone(caught.exception.index)

    def test_first_item_that_is_no_log(self):
        for value in OTHERS + STRINGS + [0, {0: 0}]:
            for logs, index in (([value, [], []], 0), ([[], value, value], 1), ((self.LOGS[0], (), value), 2)):
                with self.subTest(value=value, index=index):
                    with self.assertRaises(InvalidLogs) as caught:
                        merged(PAIR, logs)
                    self.assertEqual(caught.exception.index, index)

    def test_arguments_are_not_modified(self):
        logs = logs_of(PAIR, PAIR_MOVES)
        merged(PAIR, logs)[1].append("changed")
        self.assertEqual(logs, self.LOGS)
        self.assertEqual(merged(PAIR, logs), ("run", PAIR_MOVES))


if __name__ == "__main__":
    unittest.main()
