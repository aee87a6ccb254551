"""Workbenches: moves that are played, taken back and played again."""

import random
import unittest

from homefrees.errors import InvalidMove, InvalidNumber, LimitExceeded, NothingToUndo
from homefrees.machine import Machine
from homefrees.workbench import Workbench
from support import OTHERS, STRINGS, changed, long_bench, moves_of, random_machine

THREADS = [(0, [("alloc", 0, 0)]), (1, [("free", 0)])]
MACHINE = Machine(2, [1], THREADS, pages=1)
MOVES = moves_of("0 0 0 1 1 carry0 sweep0")
EVENTS = [
    ("take", 0), ("open", 0), ("hit", (0, 0)), ("batch", (0, 0)), ("send", 0, 1), ("carry", 0, 1), ("sweep", 1),
]

# Values that are no amounts and no limits, of whatever kind.
NUMBERS = [*OTHERS, *STRINGS, "1", (), (1,), [], [1], -1, -10 ** 40]


def bench_behind(text, machine=MACHINE):
    bench = Workbench(machine)
    for move in moves_of(text):
        bench.play(move)
    return bench


def told(bench):
    """Return all that a workbench tells, what is taken back included, without changing it."""
    copy = bench.clone()
    undone = []
    while True:
        try:
            copy.redo()
        except NothingToUndo:
            break
        undone.append((copy.moves()[-1], copy.events()[-1], copy.now.key))
    return (bench.machine, bench.now.key, bench.moves(), bench.events(), len(bench), undone)


class PlayTests(unittest.TestCase):
    def test_new_workbench(self):
        bench = Workbench(MACHINE)
        self.assertEqual(bench.machine, MACHINE)
        self.assertEqual(bench.now, MACHINE.start)
        self.assertEqual([bench.moves(), bench.events(), len(bench)], [[], [], 0])

    def test_events_of_moves(self):
        bench = Workbench(MACHINE)
        for number, (move, event) in enumerate(zip(MOVES, EVENTS), start=1):
            self.assertEqual(bench.play(move), event)
            self.assertEqual(bench.now, MACHINE.after(MOVES[:number]))
            self.assertEqual(bench.moves(), MOVES[:number])
            self.assertEqual(bench.events(), EVENTS[:number])
            self.assertEqual(len(bench), number)
        self.assertEqual(bench.machine, MACHINE)

    def test_moves_that_are_not_possible(self):
        bench = bench_behind("0 0 0")
        bench.undo()
        before = told(bench)
        for move in [*OTHERS, *STRINGS, 0, (), ("step",), ("step", 1), ("step", False), ["step", 0], ("carry", 0),
                     ("stop", 0), ("recover", 0), ("sweep", 0), ("step", 2), ("step", 10 ** 40), [[]]]:
            with self.subTest(move=move):
                with self.assertRaises(InvalidMove) as caught:
                    bench.play(move)
                self.assertIs(caught.exception.move, move)
                self.assertEqual(told(bench), before)
        bench.redo()
        self.assertEqual(bench.moves(), MOVES[:3])

    def test_new_lists_each_time(self):
        bench = bench_behind("0 0")
        bench.moves().clear()
        bench.events().append(1)
        self.assertEqual([bench.moves(), bench.events(), len(bench)], [MOVES[:2], EVENTS[:2], 2])

    def test_properties_are_not_assigned(self):
        bench = bench_behind("0")
        for name in ("machine", "now"):
            with self.assertRaises(AttributeError):
                setattr(bench, name, None)


class FinishTests(unittest.TestCase):
    def test_number_of_moves(self):
        bench = Workbench(MACHINE)
        self.assertEqual(bench.finish(), 7)
        self.assertEqual(bench.moves(), MOVES)
        self.assertEqual(bench.events(), EVENTS)
        self.assertEqual(bench.now, MACHINE.after(MOVES))
        self.assertEqual(bench.finish(), 0)
        self.assertEqual(len(bench), 7)

    def test_behind_some_moves(self):
        for many in range(8):
            bench = Workbench(MACHINE)
            for move in MOVES[:many]:
                bench.play(move)
            self.assertEqual(bench.finish(limit=7 - many), 7 - many)
            self.assertEqual(bench.moves(), MOVES)

    def test_the_first_possible_move_is_played(self):
        machine = Machine(2, [1], [(0, [("alloc", 0, 0)]), (1, [("alloc", 0, 1)])], pages=2, stops=1)
        bench = Workbench(machine)
        self.assertEqual(machine.moves(machine.start), moves_of("0 1 stop0 stop1"))
        bench.finish()
        self.assertEqual(bench.moves(), moves_of("0 0 0 1 1 1"))
        bench = bench_behind("1 stop1", machine)
        bench.finish()
        # The moves are sorted, and recover is before step.
        self.assertEqual(bench.moves(), moves_of("1 stop1 recover1 0 0 0"))

    def test_limits(self):
        for limit in (7, 8, 1000, 100000):
            bench = Workbench(MACHINE)
            self.assertEqual(bench.finish(limit), 7)
            self.assertEqual(bench.finish(limit=limit), 0)

    def test_too_many_moves(self):
        for limit in range(7):
            for many in range(3):
                bench = bench_behind("0 0 0")
                bench.undo(3 - many)
                if limit >= 7 - many:
                    continue
                before = told(bench)
                with self.assertRaises(LimitExceeded) as caught:
                    bench.finish(limit)
                self.assertEqual(caught.exception.limit, limit)
                self.assertEqual(told(bench), before)

    def test_limit_of_no_moves(self):
        bench = Workbench(MACHINE)
        with self.assertRaises(LimitExceeded) as caught:
            bench.finish(0)
        self.assertEqual(caught.exception.limit, 0)
        bench.finish()
        self.assertEqual(bench.finish(0), 0)

    def test_limits_that_are_none(self):
        bench = bench_behind("0 0")
        bench.undo()
        before = told(bench)
        for limit in [*NUMBERS, 100001, 10 ** 40]:
            with self.subTest(limit=limit):
                with self.assertRaises(InvalidNumber) as caught:
                    bench.finish(limit)
                self.assertIs(caught.exception.value, limit)
                with self.assertRaises(InvalidNumber):
                    bench.finish(limit=limit)
                self.assertEqual(told(bench), before)

    def test_limits_that_are_none_at_the_end(self):
        bench = Workbench(MACHINE)
        bench.finish()
        for limit in (True, False, None, -1, 100001):
            with self.assertRaises(InvalidNumber):
                bench.finish(limit)

    def test_more_than_a_thousand_moves(self):
        bench = long_bench()
        bench.play(bench.machine.moves(bench.now)[0])
        bench.undo()
        before = told(bench)
        for limit in (1000, 1137):
            with self.assertRaises(LimitExceeded) as caught:
                bench.finish() if limit == 1000 else bench.finish(limit)
            self.assertEqual(caught.exception.limit, limit)
            self.assertEqual(told(bench), before)
        self.assertEqual(bench.finish(1138), 1138)
        self.assertEqual(bench.machine.moves(bench.now), [])

    def test_exactly_a_thousand_moves(self):
        for many in (137, 138):
            bench = long_bench()
            for _ in range(many):
                bench.play(bench.machine.moves(bench.now)[0])
            if many == 137:
                with self.assertRaises(LimitExceeded):
                    bench.finish()
            else:
                self.assertEqual(bench.finish(), 1000)

    def test_taken_back_moves_are_discarded(self):
        bench = bench_behind("0 0 0")
        bench.undo(2)
        self.assertEqual(bench.finish(), 6)
        with self.assertRaises(NothingToUndo):
            bench.redo()


class UndoTests(unittest.TestCase):
    def test_one_move(self):
        bench = bench_behind("0 0 0")
        self.assertIsNone(bench.undo())
        self.assertEqual([bench.moves(), bench.events(), len(bench)], [MOVES[:2], EVENTS[:2], 2])
        self.assertEqual(bench.now, MACHINE.after(MOVES[:2]))
        self.assertIsNone(bench.redo())
        self.assertEqual([bench.moves(), bench.events(), len(bench)], [MOVES[:3], EVENTS[:3], 3])
        self.assertEqual(bench.now, MACHINE.after(MOVES[:3]))

    def test_several_moves(self):
        for undone in range(1, 8):
            for redone in range(1, undone + 1):
                bench = Workbench(MACHINE)
                bench.finish()
                self.assertIsNone(bench.undo(undone))
                self.assertEqual(bench.moves(), MOVES[:7 - undone])
                self.assertIsNone(bench.redo(redone))
                many = 7 - undone + redone
                self.assertEqual([bench.moves(), bench.events()], [MOVES[:many], EVENTS[:many]])
                self.assertEqual(bench.now, MACHINE.after(MOVES[:many]))

    def test_by_name(self):
        bench = bench_behind("0 0 0")
        bench.undo(amount=2)
        self.assertEqual(len(bench), 1)
        bench.redo(amount=2)
        self.assertEqual(len(bench), 3)

    def test_in_parts(self):
        bench = bench_behind("0 0 0 1")
        bench.undo()
        bench.undo(2)
        self.assertEqual(bench.moves(), MOVES[:1])
        bench.redo(2)
        self.assertEqual(bench.moves(), MOVES[:3])
        bench.undo()
        bench.redo(2)
        self.assertEqual(bench.moves(), MOVES[:4])

    def test_a_move_that_is_played_discards_those_taken_back(self):
        bench = bench_behind("0 0 0")
        bench.undo(2)
        # It is the very move that was taken back.
        bench.play(("step", 0))
        with self.assertRaises(NothingToUndo) as caught:
            bench.redo()
        self.assertEqual(caught.exception.amount, 1)
        bench.undo()
        bench.redo()
        self.assertEqual(bench.moves(), MOVES[:2])
        with self.assertRaises(NothingToUndo):
            bench.redo()

    def test_amounts_too_great(self):
        for undone in range(4):
            bench = bench_behind("0 0 0")
            for _ in range(undone):
                bench.undo()
            before = told(bench)
            for call, there in [(bench.undo, 3 - undone), (bench.redo, undone)]:
                for amount in (there + 1, there + 2, 10 ** 40):
                    with self.assertRaises(NothingToUndo) as caught:
                        call(amount)
                    self.assertEqual(caught.exception.amount, amount)
                    self.assertEqual(told(bench), before)

    def test_amounts_that_are_none(self):
        bench = bench_behind("0 0 0")
        bench.undo()
        before = told(bench)
        for call in (bench.undo, bench.redo):
            for amount in [*NUMBERS, 0]:
                with self.subTest(amount=amount):
                    with self.assertRaises(InvalidNumber) as caught:
                        call(amount)
                    self.assertIs(caught.exception.value, amount)
                    with self.assertRaises(InvalidNumber):
                        call(amount=amount)
                    self.assertEqual(told(bench), before)

    def test_amounts_that_are_none_come_before_those_that_are_too_great(self):
        bench = Workbench(MACHINE)
        for call in (bench.undo, bench.redo):
            for amount in (0, -1, True, None):
                with self.assertRaises(InvalidNumber):
                    call(amount)
            with self.assertRaises(NothingToUndo):
                call(1)


class CloneTests(unittest.TestCase):
    def test_a_clone_tells_the_same(self):
        bench = bench_behind("0 0 0 1")
        bench.undo(2)
        copy = bench.clone()
        self.assertIsInstance(copy, Workbench)
        self.assertIsNot(copy, bench)
        self.assertEqual(told(copy), told(bench))
        self.assertEqual(copy, bench)

    def test_copies_go_different_ways(self):
        for undone in (1, 2, 3):
            bench = bench_behind("0 0 0 1")
            bench.undo(undone)
            before = told(bench)
            for change in (Workbench.finish, Workbench.undo, Workbench.redo, lambda one: one.play(("step", 0))):
                copy = bench.clone()
                try:
                    change(copy)
                except InvalidMove:
                    continue
                self.assertEqual(told(bench), before)
                other = bench.clone()
                self.assertEqual(told(other), before)
                kept = told(copy)
                other.redo()
                other.undo(2)
                self.assertEqual(told(copy), kept)

    def test_the_first_one_goes_on(self):
        bench = bench_behind("0 0 0 1")
        bench.undo(2)
        copy = bench.clone()
        before = told(copy)
        bench.redo()
        bench.redo()
        self.assertEqual(told(copy), before)
        bench.finish()
        bench.undo(5)
        self.assertEqual(told(copy), before)
        copy.redo(2)
        self.assertEqual(copy.moves(), MOVES[:4])

    def test_what_is_taken_back_is_copied(self):
        bench = bench_behind("0 0 0")
        bench.undo(2)
        copy = bench.clone()
        bench.play(("step", 0))
        with self.assertRaises(NothingToUndo):
            bench.redo()
        copy.redo(2)
        self.assertEqual(copy.moves(), MOVES[:3])


class EqualityTests(unittest.TestCase):
    def test_equal_machines_and_moves(self):
        other = Machine(2, (1,), tuple(THREADS), pages=1, batch=1)
        self.assertEqual(Workbench(MACHINE), Workbench(other))
        self.assertEqual(bench_behind("0 0"), bench_behind("0 0", other))
        self.assertFalse(bench_behind("0 0") != bench_behind("0 0", other))

    def test_what_is_taken_back_does_not_count(self):
        bench = bench_behind("0 0 0")
        bench.undo()
        self.assertEqual(bench, bench_behind("0 0"))

    def test_other_moves(self):
        self.assertNotEqual(bench_behind("0"), bench_behind("0 0"))
        self.assertNotEqual(bench_behind(""), bench_behind("0"))
        machine = Machine(2, [1], [(0, [("alloc", 0, 0)]), (1, [("alloc", 0, 1)])], pages=2)
        # The states are equal, the moves are not.
        one, other = bench_behind("0 1", machine), bench_behind("1 0", machine)
        self.assertEqual(one.now, other.now)
        self.assertNotEqual(one, other)

    def test_other_machines(self):
        for other in (changed(MACHINE, pages=2), changed(MACHINE, batch=2), changed(MACHINE, stops=1),
                      changed(MACHINE, threads=THREADS[:1])):
            self.assertNotEqual(Workbench(MACHINE), Workbench(other))
            self.assertNotEqual(bench_behind("0"), bench_behind("0", other))

    def test_values_of_other_kinds(self):
        bench = bench_behind("0 0")
        for value in [*OTHERS, *STRINGS, 0, 2, [], MOVES[:2], tuple(MOVES[:2]), MACHINE, bench.now, [bench]]:
            self.assertFalse(bench == value)
            self.assertTrue(bench != value)
            self.assertFalse(value == bench)


class Model:
    """A workbench as plainly as can be: the moves alone, played from the start each time."""

    def __init__(self, machine):
        self.machine, self.done, self.undone = machine, [], []

    def call(self, name, *arguments):
        return getattr(self, name)(*arguments)

    def play(self, move):
        if not any(move == other for other in self.machine.moves(self.machine.after(self.done))):
            raise InvalidMove(move)
        self.done, self.undone = [*self.done, move], []
        return self.machine.run(self.done)[-1][1]

    def finish(self, limit):
        added = []
        while self.machine.moves(self.machine.after(self.done + added)):
            if len(added) >= limit:
                raise LimitExceeded(limit)
            added.append(self.machine.moves(self.machine.after(self.done + added))[0])
        if added:
            self.done, self.undone = self.done + added, []
        return len(added)

    def undo(self, amount):
        self.move_over(amount, self.done)
        self.undone = self.done[-amount:] + self.undone
        self.done = self.done[:-amount]

    def redo(self, amount):
        self.move_over(amount, self.undone)
        self.done = self.done + self.undone[:amount]
        self.undone = self.undone[amount:]

    def move_over(self, amount, moves):
        if amount < 1:
            raise InvalidNumber(amount)
        if amount > len(moves):
            raise NothingToUndo(amount)


def outcome(call, *arguments):
    """Return what a call returns, or the error that it raises."""
    try:
        return ("returned", call(*arguments))
    except (InvalidMove, InvalidNumber, LimitExceeded, NothingToUndo) as error:
        return (error.__class__, vars(error))


class ManyCallsTests(unittest.TestCase):
    """Guarantee 12: undo and redo restore the state exactly."""

    def test_random_calls_beside_a_model(self):
        chooser = random.Random(51)
        seen = {}
        for _ in range(60):
            machine = random_machine(chooser, chooser.choice([None, None, "take", "fill", "batches"]))
            bench, model = Workbench(machine), Model(machine)
            for _ in range(25):
                name, argument = self.chosen_call(chooser, bench)
                found = outcome(getattr(bench, name), argument)
                self.assertEqual(found, outcome(model.call, name, argument))
                seen[name, found[0]] = True
                rows = machine.run(model.done)
                self.assertEqual(bench.now, machine.after(model.done))
                self.assertEqual(bench.moves(), model.done)
                self.assertEqual(bench.events(), [event for _, event in rows])
                self.assertEqual(len(bench), len(model.done))
                if chooser.random() < 0.1:
                    # The copy goes on, and the first one its own way.
                    bench, old = bench.clone(), bench
                    outcome(old.undo, 1)
                    outcome(old.finish, 5)
        # Each call returned, and raised each of its errors.
        self.assertEqual(len(seen), 10)

    def chosen_call(self, chooser, bench):
        name = chooser.choice(["play"] * 6 + ["undo", "undo", "redo", "redo", "finish"])
        if name == "finish":
            return (name, chooser.choice([0, 1, 5, 20]))
        if name != "play":
            return (name, chooser.choice([0, 1, 1, 1, 2, 3, 7]))
        possible = bench.machine.moves(bench.now)
        if possible and chooser.random() < 0.9:
            return (name, chooser.choice(possible))
        return (name, (chooser.choice(["step", "carry", "stop", "recover", "sweep", "walk"]), chooser.randrange(7)))

    def test_all_moves_taken_back_and_played_again(self):
        chooser = random.Random(52)
        for _ in range(30):
            bench = Workbench(random_machine(chooser))
            while bench.machine.moves(bench.now):
                bench.play(chooser.choice(bench.machine.moves(bench.now)))
            states = []
            moves, events, many = bench.moves(), bench.events(), len(bench)
            for _ in range(many):
                states.append(bench.now)
                bench.undo()
            self.assertEqual(bench.now, bench.machine.start)
            for state in reversed(states):
                bench.redo()
                self.assertEqual(bench.now, state)
            self.assertEqual([bench.moves(), bench.events()], [moves, events])


if __name__ == "__main__":
    unittest.main()
