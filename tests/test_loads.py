"""homefrees.loads: points [7] and [8], loads, held pages, accounts, and costs."""

import unittest

from homefrees.errors import InvalidNumber, InvalidRun
from homefrees.loads import account, costs, held, load, small_pages
from homefrees.machine import Machine
from homefrees.state import State
from support import OTHERS, STRINGS, changed, moves_of, random_runs, state_behind

# Two sockets and two classes; thread 1, of socket 1, adopts and frees what thread 0 has allocated.
MACHINE = Machine(2, [2, 3], [
    (0, [("alloc", 0, 0), ("alloc", 0, 1), ("alloc", 1, 2), ("large", 2, 3)]),
    (1, [("adopt", 0), ("adopt", 0), ("free", 0), ("free", 1), ("free", 2), ("alloc", 0, 0), ("alloc", 0, 1)]),
], pages=6, slots=4, stops=1)

WRONG_KINDS = [2, -1, 10 ** 59, -(10 ** 59), (), (0,), [], [0]] + OTHERS + STRINGS


def state_with(*pages):
    start = MACHINE.start
    return State(pages, start.slots, start.threads, start.arrivals, start.flight)


class LoadTests(unittest.TestCase):
    def test_start(self):
        for kind in (0, 1):
            for socket in (0, 1):
                self.assertEqual(load(MACHINE, MACHINE.start, kind, socket), 0)
                self.assertEqual(small_pages(MACHINE, MACHINE.start, kind, socket), 0)
        self.assertEqual(held(MACHINE.start), 0)

    def test_pages_of_the_class_and_the_socket(self):
        state = state_with(
            ("small", 0, 0, (1,)), ("small", 0, 0, ()), ("small", 1, 0, (0,)), ("small", 0, 1, (2, 0)),
            ("small", 0, 1, ()), ("small", 1, 1, (1,)), ("small", 1, 1, ()), ("small", 1, 1, (0,)),
        )
        found = [load(MACHINE, state, kind, socket) for kind in (0, 1) for socket in (0, 1)]
        self.assertEqual(found, [3, 1, 4, 7])
        found = [small_pages(MACHINE, state, kind, socket) for kind in (0, 1) for socket in (0, 1)]
        self.assertEqual(found, [2, 1, 2, 3])
        self.assertEqual(load(machine=MACHINE, state=state, kind=1, socket=0), 4)
        self.assertEqual(small_pages(machine=MACHINE, state=state, kind=1, socket=0), 2)

    def test_other_pages_do_not_count(self):
        state = state_with(("store",), ("spare", 0), ("spare", 1), ("large", 3))
        self.assertEqual([load(MACHINE, state, 0, 0), small_pages(MACHINE, state, 0, 0)], [0, 0])

    def test_numbers_in_the_list_count_once(self):
        state = state_with(("small", 0, 1, (2, 2, 2)))
        self.assertEqual(load(MACHINE, state, 1, 0), 2)
        # A number that the class does not have is no block of the page.
        state = state_with(("small", 0, 0, (2, 1)))
        self.assertEqual(load(MACHINE, state, 0, 0), 1)

    def test_load_of_a_run(self):
        states = [state for state, _ in MACHINE.run(moves_of("0 0 0 0 0 0 0 0 0"))]
        self.assertEqual([load(MACHINE, state, 0, 0) for state in states], [0, 1, 1, 1, 2, 2, 2, 2, 2])
        self.assertEqual([load(MACHINE, state, 1, 0) for state in states], [0, 0, 0, 0, 0, 0, 0, 1, 1])

    def test_blocks_on_their_way_count(self):
        state = state_behind(MACHINE, "0 0 0 0 0 0 0 0 0 1")
        self.assertEqual([load(MACHINE, state, 0, 0), load(MACHINE, state, 0, 1)], [0, 2])

    def test_classes_and_sockets_that_the_machine_does_not_have(self):
        for function in (load, small_pages):
            for value in WRONG_KINDS:
                for arguments in ((value, 0), (0, value), (value, value)):
                    with self.subTest(function=function, arguments=arguments):
                        with self.assertRaises(InvalidNumber) as caught:
                            function(MACHINE, MACHINE.start, *arguments)
                        self.assertIs(caught.exception.value, value)

    def test_class_before_socket(self):
        for function in (load, small_pages):
            with self.assertRaises(InvalidNumber) as caught:
                function(MACHINE, MACHINE.start, 7, 8)
            self.assertEqual(caught.exception.value, 7)

    def test_greatest_class_and_socket(self):
        machine = Machine(3, [1, 1], [(0, [])])
        self.assertEqual(load(machine, machine.start, 1, 2), 0)
        self.assertRaises(InvalidNumber, load, machine, machine.start, 2, 0)
        self.assertRaises(InvalidNumber, load, machine, machine.start, 0, 3)


class HeldTests(unittest.TestCase):
    def test_pages_that_are_not_in_the_store(self):
        self.assertEqual(held(state_with(("store",), ("spare", 0), ("small", 0, 0, ()), ("large", 3), ("large", 3))), 4)
        self.assertEqual(held(state=state_with(("store",), ("store",))), 0)

    def test_run(self):
        found = [held(state) for state, _ in MACHINE.run(moves_of("0 0 0 0 0 0 0 0 0 0"))]
        self.assertEqual(found, [0, 1, 1, 1, 1, 1, 1, 2, 2, 4])


class AccountTests(unittest.TestCase):
    BEGIN = "0 0 0 0 0 0 0 0 0 0 "

    def test_example(self):
        machine = Machine(1, [2], [(0, [("alloc", 0, 0)])], pages=2)
        self.assertEqual(account(machine, [("step", 0)] * 3, 0, 0), [(0, 0, 0), (0, 0, 0), (1, 1, 0), (1, 1, 0)])

    def test_no_moves(self):
        self.assertEqual(account(MACHINE, [], 1, 1), [(0, 0, 0)])
        self.assertEqual(account(machine=MACHINE, moves=(), kind=1, socket=1), [(0, 0, 0)])

    def test_greatest_load_so_far(self):
        machine = Machine(1, [1], [
            (0, [("alloc", 0, 0), ("alloc", 0, 1), ("free", 1), ("free", 0), ("alloc", 0, 0)]),
        ])
        found = account(machine, moves_of("0 0 0 0 0 0 0 0 0"), 0, 0)
        self.assertEqual([row[0] for row in found], [0, 0, 1, 1, 1, 2, 2, 2, 1, 1])
        self.assertEqual([row[1] for row in found], [0, 0, 1, 1, 1, 2, 2, 2, 2, 2])

    def test_adoptions_from_another_home_and_from_the_own_one(self):
        # The first adoption takes the page from socket 0, the second one finds it at home.
        moves = moves_of(self.BEGIN + "1 1 1")
        self.assertEqual(account(MACHINE, moves, 0, 1)[10:], [(0, 0, 0), (1, 2, 1), (1, 2, 1), (1, 2, 1)])
        self.assertEqual(account(MACHINE, moves, 0, 0)[10:], [(1, 2, 0), (0, 2, 0), (0, 2, 0), (0, 2, 0)])
        self.assertEqual(account(MACHINE, moves, 1, 1)[10:], [(0, 0, 0)] * 4)
        self.assertEqual(account(MACHINE, moves, 1, 0)[10:], [(1, 1, 0)] * 4)

    def test_adoptions_of_several_pages(self):
        machine = Machine(3, [1, 1], [
            (0, [("alloc", 0, 0), ("alloc", 1, 1), ("alloc", 0, 2)]),
            (1, [("adopt", 0), ("adopt", 1), ("adopt", 2)]), (2, [("adopt", 0)]), (1, [("adopt", 0)]),
        ], slots=3)
        moves = moves_of("0 0 0 0 0 0 0 0 0 1 1 1 2 3")
        self.assertEqual([row[2] for row in account(machine, moves, 0, 1)[9:]], [0, 1, 1, 2, 2, 3])
        self.assertEqual([row[2] for row in account(machine, moves, 1, 1)[9:]], [0, 0, 1, 1, 1, 1])
        self.assertEqual([row[2] for row in account(machine, moves, 0, 2)[9:]], [0, 0, 0, 0, 1, 1])
        self.assertEqual([row[2] for row in account(machine, moves, 0, 0)], [0] * 15)

    def test_adoption_of_what_is_no_block_does_not_count(self):
        machine = Machine(2, [1], [(0, [("large", 1, 0)]), (1, [("adopt", 0)])])
        self.assertEqual([row[2] for row in account(machine, moves_of("0 1"), 0, 1)], [0, 0, 0])

    def test_agrees_with_load_and_small_pages(self):
        for machine, moves in random_runs(31, 20):
            states = [machine.start] + [state for state, _ in machine.run(moves)]
            for kind in range(len(machine.classes)):
                for socket in range(machine.sockets):
                    found = account(machine, moves, kind, socket)
                    loads = [load(machine, state, kind, socket) for state in states]
                    self.assertEqual([row[0] for row in found], [
                        small_pages(machine, state, kind, socket) for state in states
                    ])
                    self.assertEqual([row[1] for row in found], [
                        max(loads[:many + 1]) for many in range(len(loads))
                    ])

    def test_runs_that_are_not_possible(self):
        wrong = [([("step", 2)], 0), (moves_of("0 0 1"), 2), ([("step", True)], 0), (None, None), ("", None)]
        for moves, index in wrong:
            for kind, socket in ((0, 0), (7, 0), (0, 7), (None, None)):
                with self.subTest(moves=moves, kind=kind, socket=socket):
                    with self.assertRaises(InvalidRun) as caught:
                        account(MACHINE, moves, kind, socket)
                    self.assertEqual(caught.exception.index, index)

    def test_classes_and_sockets_that_the_machine_does_not_have(self):
        for value in WRONG_KINDS:
            for arguments in ((value, 0), (0, value), (value, value)):
                with self.subTest(arguments=arguments):
                    with self.assertRaises(InvalidNumber) as caught:
                        account(MACHINE, moves_of("0"), *arguments)
                    self.assertIs(caught.exception.value, value)

    def test_returned_list_is_new_and_the_moves_stay(self):
        moves = moves_of("0 0")
        account(MACHINE, moves, 0, 0).append("changed")
        self.assertEqual(account(MACHINE, moves, 0, 0), [(0, 0, 0), (0, 0, 0), (1, 1, 0)])
        self.assertEqual(moves, moves_of("0 0"))
        self.assertEqual(account(MACHINE, tuple(moves), 0, 0), account(MACHINE, moves, 0, 0))


class CostsTests(unittest.TestCase):
    def test_no_moves(self):
        self.assertEqual(costs(MACHINE, []), (0, 0, 0, 0, 0, 0))
        self.assertEqual(costs(machine=MACHINE, moves=()), (0, 0, 0, 0, 0, 0))
        self.assertIs(type(costs(MACHINE, [])), tuple)

    def test_steps_hits_and_opened_pages(self):
        machine = Machine(1, [2], [(0, [("alloc", 0, 0), ("alloc", 0, 1), ("alloc", 0, 2)])], slots=3)
        moves = moves_of("0 0 0 0 0 0 0 0 0")
        found = [costs(machine, moves[:many])[:3] for many in range(10)]
        self.assertEqual(found, [
            (0, 0, 0), (1, 0, 0), (2, 0, 1), (3, 1, 1), (4, 1, 1), (5, 1, 1), (6, 2, 1), (7, 2, 1), (8, 2, 2),
            (9, 3, 2),
        ])

    def test_other_moves_are_no_steps(self):
        machine = Machine(2, [1], [(0, [("alloc", 0, 0)]), (1, [("free", 0)])], stops=1)
        moves = moves_of("0 0 0 1 stop1 recover1 sweep0")
        self.assertEqual([costs(machine, moves[:many])[0] for many in range(3, 8)], [3, 4, 4, 4, 4])

    def test_batched_blocks_and_messages(self):
        machine = Machine(2, [4], [
            (0, [("alloc", 0, slot) for slot in range(3)]), (1, [("free", slot) for slot in range(3)]),
        ], batch=2, slots=3)
        moves = moves_of("0 0 0 0 0 0 0 0 1 1 1 1 1 carry0 carry0")
        found = [costs(machine, moves[:many])[3:] for many in range(8, 16)]
        self.assertEqual(found, [
            (0, 0, 0), (1, 0, 0), (2, 0, 0), (2, 1, 0), (3, 1, 0), (3, 2, 0), (3, 2, 0), (3, 2, 0),
        ])

    def test_blocks_passed_on_by_threads_and_by_sweeps(self):
        machine = Machine(3, [2], [
            (0, [("alloc", 0, 0), ("alloc", 0, 1)]), (1, [("free", 0), ("adopt", 1)]), (0, [("drain",)]),
            (2, [("adopt", 1)]),
        ])
        begin = "0 0 0 0 0 0 1 1 carry0 1 "
        self.assertEqual(costs(machine, moves_of(begin))[3:], (1, 1, 0))
        # A block that a thread passes on is a message, and so is one that a sweep passes on.
        self.assertEqual(costs(machine, moves_of(begin + "2 2"))[3:], (1, 2, 1))
        self.assertEqual(costs(machine, moves_of(begin + "2 2 carry0"))[3:], (1, 2, 1))
        self.assertEqual(costs(machine, moves_of(begin + "2 2 carry0 3 sweep1"))[3:], (1, 3, 2))
        self.assertEqual(costs(machine, moves_of(begin + "2 2 carry0 3 sweep1 carry0 sweep2"))[3:], (1, 3, 2))

    def test_sweep_with_several_blocks(self):
        machine = Machine(2, [2, 2], [
            (0, [("alloc", 0, 0), ("alloc", 0, 1), ("alloc", 1, 2), ("alloc", 1, 3)]),
            (1, [("free", 0), ("free", 2), ("adopt", 1)]),
        ], slots=4)
        text = "0 0 0 0 0 0 0 0 0 0 0 0 1 1 1 1 carry0 carry0 "
        self.assertEqual(costs(machine, moves_of(text + "sweep0"))[3:], (2, 2, 0))
        # Only one of the two blocks is passed on.
        self.assertEqual(costs(machine, moves_of(text + "1 sweep0"))[3:], (2, 3, 1))
        machine = changed(machine, threads=[machine.threads[0], (1, machine.threads[1][1] + (("adopt", 3),))])
        self.assertEqual(costs(machine, moves_of(text + "1 1 sweep0"))[3:], (2, 4, 2))

    def test_sweep_while_messages_are_on_their_way(self):
        machine = Machine(2, [1], [(0, [("alloc", 0, 0), ("alloc", 0, 1)]), (1, [("free", 0), ("free", 1)])])
        moves = moves_of("0 0 0 0 0 0 1 1 1 1 carry0 sweep0")
        self.assertEqual(len(machine.after(moves).flight), 1)
        self.assertEqual(costs(machine, moves)[3:], (2, 2, 0))

    def test_dropped_batches_are_no_messages(self):
        machine = Machine(2, [1], [(0, [("alloc", 0, 0)]), (1, [("free", 0)])], batch=2, fault="batches")
        self.assertEqual(costs(machine, moves_of("0 0 0 1 1")), (5, 1, 1, 1, 0, 0))

    def test_runs_that_are_not_possible(self):
        for moves, index in (([("step", 2)], 0), (moves_of("0 0 1"), 2), ([["step", 0]], 0), (None, None), ({}, None)):
            with self.assertRaises(InvalidRun) as caught:
                costs(MACHINE, moves)
            self.assertEqual(caught.exception.index, index)


if __name__ == "__main__":
    unittest.main()
