"""homefrees.machine: point [2], the parameters, the properties, and how runs are played."""

import inspect
import unittest

from homefrees.errors import InvalidMachine, InvalidMove, InvalidRun
from homefrees.machine import Machine
from homefrees.state import State
from support import OTHERS, STRINGS, WORDS, changed, moves_of, random_runs

PARAMETERS = ("sockets", "classes", "threads", "pages", "batch", "spare", "slots", "stops", "fault")

LIMITS = {
    "sockets": (1, 4), "pages": (1, 64), "batch": (1, 8), "spare": (0, 8), "slots": (1, 8), "stops": (0, 6),
}

FREE = [(0, [("drain",)])]


def made(**parameters):
    """Return a machine with some parameters other than these."""
    return Machine(**{"sockets": 1, "classes": [2], "threads": FREE, **parameters})


class MachineTest(unittest.TestCase):
    def assert_invalid(self, name, **parameters):
        with self.subTest(**parameters):
            with self.assertRaises(InvalidMachine) as caught:
                made(**parameters)
            self.assertEqual(caught.exception.name, name)
            self.assertIs(type(caught.exception.name), str)


class NumberTests(MachineTest):
    def test_numbers_at_their_limits(self):
        for name, limits in LIMITS.items():
            for value in limits:
                with self.subTest(name, value=value):
                    self.assertEqual(getattr(made(**{name: value}), name), value)

    def test_numbers_beyond_their_limits(self):
        for name, (low, high) in LIMITS.items():
            for value in (low - 1, high + 1, -1, -(10 ** 59), 10 ** 59):
                self.assert_invalid(name, **{name: value})

    def test_numbers_of_other_kinds(self):
        for name in LIMITS:
            for value in OTHERS + STRINGS + [[], [1], (), (1,), {1}]:
                self.assert_invalid(name, **{name: value})

    def test_defaults(self):
        machine = Machine(1, [2], FREE)
        self.assertEqual(
            [machine.pages, machine.batch, machine.spare, machine.slots, machine.stops, machine.fault],
            [4, 1, 0, 2, 0, None],
        )

    def test_faults(self):
        for fault in (None, "take", "fill", "batches"):
            self.assertEqual(made(fault=fault).fault, fault)

    def test_values_that_are_no_faults(self):
        others = [value for value in OTHERS + STRINGS if value is not None]
        for value in others + ["Take", "TAKE", "take ", "batch", "none", "None", 0, 1, [], ["take"], ("take",)]:
            self.assert_invalid("fault", fault=value)


class ClassTests(MachineTest):
    def test_one_to_three_classes_of_one_to_eight_blocks(self):
        for classes in ([1], [8], [1, 8], [8, 1, 5], (3,), (3, 3, 3)):
            self.assertEqual(made(classes=classes).classes, tuple(classes))

    def test_amounts_of_classes(self):
        self.assert_invalid("classes", classes=[])
        self.assert_invalid("classes", classes=())
        self.assert_invalid("classes", classes=[1, 1, 1, 1])

    def test_blocks_beyond_the_limits_and_of_other_kinds(self):
        for value in [0, 9, -1, 10 ** 59, [], [1], (1,)] + OTHERS + STRINGS:
            self.assert_invalid("classes", classes=[value])
            self.assert_invalid("classes", classes=(1, 2, value))

    def test_values_of_other_kinds(self):
        for value in [0, 1, 3, {1: 2}, {1}] + OTHERS + STRINGS:
            self.assert_invalid("classes", classes=value)


class ThreadTests(MachineTest):
    def test_one_to_six_threads(self):
        for many in range(1, 7):
            self.assertEqual(len(made(threads=FREE * many).threads), many)
        self.assert_invalid("threads", threads=[])
        self.assert_invalid("threads", threads=())
        self.assert_invalid("threads", threads=FREE * 7)

    def test_programs_of_up_to_thirty_operations(self):
        for many in (0, 1, 30):
            self.assertEqual(len(made(threads=[(0, [("drain",)] * many)]).threads[0][1]), many)
            self.assertEqual(len(made(threads=[(0, (("drain",),) * many)]).threads[0][1]), many)
        self.assert_invalid("threads", threads=[(0, [("drain",)] * 31)])
        self.assert_invalid("threads", threads=((0, (("drain",),) * 31),))

    def test_threads_are_tuples_of_two(self):
        for thread in ([0, []], (0,), (0, [], 0), (), [], (([], 0)), ([],), 0, "00", None, {0: []}):
            self.assert_invalid("threads", threads=[thread])
            self.assert_invalid("threads", threads=FREE + [thread])

    def test_values_of_other_kinds(self):
        for value in [0, 1, {0: []}] + OTHERS + STRINGS:
            self.assert_invalid("threads", threads=value)
        for value in [0, 1, {0: 0}] + OTHERS + STRINGS:
            self.assert_invalid("threads", threads=[(0, value)])
        for value in [-1, [], (0,)] + OTHERS + STRINGS:
            self.assert_invalid("threads", threads=[(value, [])])

    def test_one_operation_is_no_program(self):
        self.assert_invalid("threads", threads=[(0, ("drain",))])

    def test_items_that_are_no_operations(self):
        for value in (["drain"], "drain", ("drain", 0), ("free", True), ("free", 8), ("large", 9, 0), None, ()):
            self.assert_invalid("threads", threads=[(0, [value])])
            self.assert_invalid("threads", threads=[(0, (("drain",), value))])

    def test_sockets_that_the_machine_has(self):
        for sockets in range(1, 5):
            for socket in range(sockets):
                made(sockets=sockets, threads=[(socket, [])])
            self.assert_invalid("threads", sockets=sockets, threads=[(sockets, [])])
            self.assert_invalid("threads", sockets=sockets, threads=[(0, []), (-1, [])])

    def test_classes_that_the_machine_has(self):
        for kinds in (1, 2):
            made(classes=[1] * kinds, threads=[(0, [("alloc", kinds - 1, 0)])])
            self.assert_invalid("threads", classes=[1] * kinds, threads=[(0, [("alloc", kinds, 0)])])
        made(classes=[1, 1, 1], threads=[(0, [("alloc", 2, 0)])])
        self.assert_invalid("threads", classes=[1, 1, 1], threads=[(0, [("alloc", 3, 0)])])

    def test_slots_that_the_machine_has(self):
        for slots in range(1, 8):
            for name in ("free", "adopt", "grow"):
                made(slots=slots, threads=[(0, [(name, slots - 1)])])
                self.assert_invalid("threads", slots=slots, threads=[(0, [(name, slots)])])
            for operation in (("alloc", 0, slots), ("large", 1, slots)):
                made(slots=slots, threads=[(0, [operation[:2] + (slots - 1,)])])
                self.assert_invalid("threads", slots=slots, threads=[(0, [operation])])
        made(slots=8, threads=[(0, [("free", 7)])])
        self.assert_invalid("threads", threads=[(0, [("free", 2)])])

    def test_pages_of_a_large_are_no_slot_or_class(self):
        made(slots=1, pages=1, threads=[(0, [("large", 8, 0)])])

    def test_eight_slots_count_if_slots_is_not_of_its_form(self):
        for slots in (0, 9, True, None, "1", [1]):
            self.assert_invalid("slots", slots=slots, threads=[(0, [("free", 7), ("alloc", 0, 7)])])
            self.assert_invalid("threads", slots=slots, threads=[(0, [("free", 8)])])
            self.assert_invalid("threads", slots=slots, threads=[(0, [("alloc", 1, 0)])])


class OrderTests(MachineTest):
    WRONG = {
        "sockets": 0, "classes": [], "threads": None, "pages": 0, "batch": 0, "spare": -1, "slots": 0,
        "stops": -1, "fault": "x",
    }

    def test_leftmost_of_several_wrong_ones(self):
        for first in range(len(PARAMETERS)):
            for second in range(first, len(PARAMETERS)):
                names = (PARAMETERS[first], PARAMETERS[second])
                self.assert_invalid(names[0], **{name: self.WRONG[name] for name in names})
            names = PARAMETERS[first:]
            self.assert_invalid(names[0], **{name: self.WRONG[name] for name in names})

    def test_all_of_another_kind(self):
        for value in OTHERS:
            self.assert_invalid("sockets", **{name: value for name in PARAMETERS})

    def test_threads_that_name_what_is_missing_come_before_the_numbers(self):
        self.assert_invalid("threads", threads=[(1, [])], pages=0, fault="x")
        self.assert_invalid("threads", threads=[(0, [("free", 2)])], pages=0)
        self.assert_invalid("classes", classes=[0], threads=[(0, [("alloc", 2, 0)])])
        self.assert_invalid("sockets", sockets=5, threads=[(4, [])])


class PropertyTests(unittest.TestCase):
    def test_all_parameters_are_properties(self):
        parameters = {
            "sockets": 3, "classes": (4, 2), "threads": ((2, (("free", 4),)), (0, ())), "pages": 9, "batch": 3,
            "spare": 2, "slots": 5, "stops": 1, "fault": "fill",
        }
        machine = Machine(**parameters)
        for name, value in parameters.items():
            with self.subTest(name):
                self.assertEqual(getattr(machine, name), value)
                self.assertRaises(AttributeError, setattr, machine, name, value)
                self.assertIsInstance(vars(Machine)[name], property)
        self.assertIsInstance(vars(Machine)["start"], property)
        self.assertRaises(AttributeError, setattr, machine, "start", machine.start)

    def test_lists_become_tuples(self):
        machine = Machine(1, [2, 3], [(0, [("drain",), ("free", 0)])])
        self.assertEqual(machine.classes, (2, 3))
        self.assertEqual(machine.threads, ((0, (("drain",), ("free", 0))),))
        self.assertIs(type(machine.threads[0][1]), tuple)

    def test_what_was_passed_may_be_changed_afterwards(self):
        classes, program = [2], [("alloc", 0, 0)]
        threads = [(0, program)]
        machine = Machine(1, classes, threads)
        other = Machine(1, [2], [(0, [("alloc", 0, 0)])])
        classes.append(3)
        program.append(("free", 0))
        threads.append((0, []))
        self.assertEqual(machine, other)
        self.assertEqual(machine.classes, (2,))
        self.assertEqual(machine.threads, ((0, (("alloc", 0, 0),)),))

    def test_arguments_are_not_modified(self):
        classes, threads = [2], [(0, [("alloc", 0, 0)])]
        Machine(1, classes, threads)
        self.assertEqual([classes, threads], [[2], [(0, [("alloc", 0, 0)])]])

    def test_numbers_are_keyword_only(self):
        self.assertRaises(TypeError, Machine, 1, [2], FREE, 4)
        self.assertEqual(Machine(sockets=1, classes=[2], threads=FREE), Machine(1, [2], FREE))

    def test_methods_stand_in_the_class(self):
        for name in ("moves", "step", "after", "run", "__eq__"):
            self.assertTrue(inspect.isfunction(vars(Machine)[name]))
        self.assertEqual(Machine.__module__, "homefrees.machine")


class EqualityTests(unittest.TestCase):
    BASE = Machine(2, [2, 3], [(0, [("free", 0)]), (1, [])], pages=5, batch=2, spare=1, slots=3, stops=1)

    def test_equal_properties(self):
        other = Machine(
            2, (2, 3), ((0, (("free", 0),)), (1, ())), pages=5, batch=2, spare=1, slots=3, stops=1, fault=None,
        )
        self.assertIs(self.BASE == other, True)
        self.assertIs(self.BASE != other, False)
        self.assertIs(changed(self.BASE) == self.BASE, True)

    def test_each_property_counts(self):
        others = {
            "sockets": 3, "classes": [3, 2], "threads": [(0, [("free", 1)]), (1, [])], "pages": 6, "batch": 3,
            "spare": 2, "slots": 4, "stops": 2, "fault": "take",
        }
        for name, value in others.items():
            with self.subTest(name):
                self.assertIs(changed(self.BASE, **{name: value}) == self.BASE, False)
                self.assertIs(changed(self.BASE, **{name: value}) != self.BASE, True)

    def test_numbers_are_not_exchanged(self):
        self.assertNotEqual(made(pages=2, batch=3), made(pages=3, batch=2))
        self.assertNotEqual(made(spare=1, stops=0), made(spare=0, stops=1))

    def test_values_of_other_kinds(self):
        for value in OTHERS + STRINGS + [0, (), [], self.BASE.start, self.BASE.start.key]:
            self.assertIs(self.BASE == value, False)
            self.assertIs(value == self.BASE, False)
            self.assertIs(self.BASE != value, True)


class StartTests(unittest.TestCase):
    def test_start(self):
        machine = Machine(
            2, [2, 3, 1], [(1, [("drain",)]), (0, []), (1, [("alloc", 0, 0)])], pages=3, slots=4, stops=2,
        )
        nothing = ((), (), ())
        self.assertEqual(machine.start.key, (
            (("store",), ("store",), ("store",)),
            (None, None, None, None),
            (
                ("running", 0, "begin", (), nothing, (nothing, nothing)),
                ("ended", 0, "over", (), nothing, (nothing, nothing)),
                ("running", 0, "begin", (), nothing, (nothing, nothing)),
            ),
            ((), ()),
            (),
        ))
        self.assertIs(type(machine.start), State)

    def test_states_consist_of_tuples_integers_strings_and_none(self):
        def assert_plain(value):
            self.assertIn(type(value), (tuple, int, str, type(None)))
            if type(value) is tuple:
                for item in value:
                    assert_plain(item)

        for fault in (None, "take", "fill", "batches"):
            for machine, moves in random_runs(2, 6, fault):
                for state, event in machine.run(moves):
                    assert_plain(state.key)
                    assert_plain(event)


class PlayTests(unittest.TestCase):
    MACHINE = Machine(1, [2], [(0, [("alloc", 0, 0)])], pages=2)
    STOPPABLE = Machine(2, [1], [(0, [("alloc", 0, 0)]), (1, [("free", 0)])], pages=1, stops=1)
    # In the state behind these moves all five words are possible for some number.
    MANY = Machine(
        3, [1], [
            (0, [("alloc", 0, 0), ("alloc", 0, 1)]), (1, [("free", 0), ("free", 1), ("drain",)]), (2, []),
            (2, [("drain",)]),
        ], pages=2, stops=2,
    )
    MANY_MOVES = moves_of("0 0 0 0 0 0 1 1 1 1 carry1 stop1")

    def test_example(self):
        rows = self.MACHINE.run([("step", 0)] * 3)
        last = self.MACHINE.after([("step", 0)] * 3)
        self.assertEqual([event for _, event in rows], [("take", 0), ("open", 0), ("hit", (0, 0))])
        self.assertEqual(last.pages, (("small", 0, 0, (1,)), ("store",)))
        self.assertEqual(last.slots, (("block", 0, 0), None))
        self.assertEqual(last.threads, (("ended", 1, "over", (), ((),), (((),),)),))

    def test_moves_are_sorted_and_a_new_list(self):
        state = self.MANY.after(self.MANY_MOVES)
        expected = [("carry", 0), ("recover", 1), ("step", 3), ("stop", 3), ("sweep", 0)]
        first = self.MANY.moves(state)
        self.assertEqual(first, expected)
        self.assertIs(type(first), list)
        first.append("changed")
        self.assertEqual(self.MANY.moves(state), expected)
        self.assertEqual(self.MANY.moves(state=state), expected)

    def test_moves_are_sorted_in_many_states(self):
        for machine, moves in random_runs(5, 10):
            state = machine.start
            for move in moves:
                possible = machine.moves(state)
                self.assertEqual(possible, sorted(possible))
                self.assertEqual([type(number) for _, number in possible], [int] * len(possible))
                self.assertIn(move, possible)
                state = machine.step(state, move)[0]
            self.assertEqual(machine.moves(state), [])

    def test_step_takes_exactly_the_possible_moves(self):
        for machine, moves in [(self.MANY, self.MANY_MOVES)] + random_runs(6, 6):
            state = machine.start
            for move in moves:
                for candidate in [(word, number) for word in WORDS for number in range(-1, 9)]:
                    if candidate in machine.moves(state):
                        self.assertIs(type(machine.step(state, candidate)), tuple)
                    else:
                        self.assertRaises(InvalidMove, machine.step, state, candidate)
                state = machine.step(state, move)[0]

    def assert_no_move(self, machine, state, move):
        with self.subTest(move=move):
            with self.assertRaises(InvalidMove) as caught:
                machine.step(state, move)
            self.assertIs(caught.exception.move, move)

    def test_values_that_are_no_moves(self):
        state = self.MANY.after(self.MANY_MOVES)
        for word, number in self.MANY.moves(state):
            for value in ([word, number], (word,), (word, number, 0), (number, word), (word, str(number)),
                          (word.upper(), number), (word, None), (word, -1), (word, 10 ** 59), (word, [number]),
                          (word + " ", number), word, f"{word} {number}", {word: number}, ((word, number),)):
                self.assert_no_move(self.MANY, state, value)
        wrong = [0, 1, (), [], [[]], ((), ()), ([], 0), ({}, 0), (None, 0), (0, 0), (b"step", 3)]
        for value in OTHERS + STRINGS + wrong:
            self.assert_no_move(self.MANY, state, value)

    def test_true_and_false_are_no_integers(self):
        start = self.STOPPABLE.start
        self.assertIn(("step", 0), self.STOPPABLE.moves(start))
        self.assertIn(("stop", 1), self.STOPPABLE.moves(start))
        self.assert_no_move(self.STOPPABLE, start, ("step", False))
        self.assert_no_move(self.STOPPABLE, start, ("stop", True))
        state = self.MANY.after(self.MANY_MOVES)
        for move in (("carry", False), ("recover", True), ("sweep", False)):
            self.assertIn(move, self.MANY.moves(state))
            self.assert_no_move(self.MANY, state, move)

    def test_step_by_name_and_no_change_of_the_state(self):
        start = self.MACHINE.start
        key = start.key
        state, event = self.MACHINE.step(state=start, move=("step", 0))
        self.assertEqual(event, ("take", 0))
        self.assertNotEqual(state, start)
        self.assertEqual(start.key, key)
        self.assertEqual(self.MACHINE.start, start)
        self.assertEqual(self.MACHINE.step(start, ("step", 0)), (state, event))

    def test_after_and_run_of_no_moves(self):
        self.assertEqual(self.MACHINE.after([]), self.MACHINE.start)
        self.assertEqual(self.MACHINE.after(()), self.MACHINE.start)
        self.assertEqual(self.MACHINE.run([]), [])
        self.assertEqual(self.MACHINE.run(moves=()), [])

    def test_run_tells_each_step(self):
        for moves in (moves_of("0 0 0"), tuple(moves_of("0 0 0"))):
            rows = self.MACHINE.run(moves)
            self.assertIs(type(rows), list)
            state = self.MACHINE.start
            for move, row in zip(moves, rows):
                self.assertEqual(self.MACHINE.step(state, move), row)
                self.assertIs(type(row), tuple)
                state = row[0]
            self.assertEqual(self.MACHINE.after(moves=moves), state)

    def test_returned_list_is_new(self):
        moves = moves_of("0 0")
        rows = self.MACHINE.run(moves)
        rows.append("changed")
        self.assertEqual(len(self.MACHINE.run(moves)), 2)
        self.assertEqual(moves, moves_of("0 0"))

    def assert_no_run(self, moves, index):
        for play in (self.MACHINE.after, self.MACHINE.run):
            with self.subTest(moves=moves, play=play):
                with self.assertRaises(InvalidRun) as caught:
                    play(moves)
                self.assertEqual(caught.exception.index, index)
                self.assertIs(type(caught.exception.index), type(index))

    def test_index_of_the_first_move_that_is_not_possible(self):
        good = ("step", 0)
        for wrong in (("step", 1), ("step", False), ["step", 0], "step 0", None, 0, ("carry", 0), ("stop", 0)):
            self.assert_no_run([wrong], 0)
            self.assert_no_run((good, wrong), 1)
            self.assert_no_run([good, good, wrong, wrong], 2)
            self.assert_no_run([good, good, good, wrong], 3)
        self.assert_no_run([good] * 4, 3)
        self.assert_no_run([good] * 6, 3)

    def test_values_that_are_no_list_or_tuple(self):
        for value in OTHERS + STRINGS + [0, {("step", 0): 0}, {("step", 0)}]:
            self.assert_no_run(value, None)

    def test_one_move_is_no_run(self):
        self.assert_no_run(("step", 0), 0)


if __name__ == "__main__":
    unittest.main()
