"""homefrees.machine: point [4], messages, stops and recoveries, and sweeps."""

import unittest

from homefrees.machine import Machine
from support import changed, events_of, moves_of, state_behind

STORE = ("store",)


def senders(*sockets):
    """Return a machine in which thread 0, of socket 0, allocates a block for each of the other threads,

    which are on these sockets and send their block back; the classes have one block.
    """
    threads = [(0, [("alloc", 0, slot) for slot in range(len(sockets))])]
    threads += [(socket, [("free", slot)]) for slot, socket in enumerate(sockets)]
    return Machine(max(sockets) + 1, [1], threads, slots=len(sockets))


class CarryTests(unittest.TestCase):
    MACHINE = senders(1, 1, 1)
    BEGIN = "0 0 0 0 0 0 0 0 0 1 1 2 2 3 3 "

    def test_messages_are_in_the_order_in_which_they_were_sent(self):
        state = state_behind(self.MACHINE, "0 0 0 0 0 0 0 0 0 2 1 3 3 1 2")
        self.assertEqual(state.flight, ((0, ((2, 0),)), (0, ((0, 0),)), (0, ((1, 0),))))

    def test_each_message_can_be_carried(self):
        state = state_behind(self.MACHINE, self.BEGIN)
        self.assertEqual(self.MACHINE.moves(state), [("carry", 0), ("carry", 1), ("carry", 2)])
        for message in range(3):
            follower, event = self.MACHINE.step(state, ("carry", message))
            self.assertEqual(event, ("carry", 0, 1))
            self.assertEqual(follower.arrivals, (((message, 0),), ()))
            self.assertEqual(follower.flight, state.flight[:message] + state.flight[message + 1:])

    def test_arrivals_are_appended(self):
        state = state_behind(self.MACHINE, self.BEGIN + "carry1 carry1 carry0")
        self.assertEqual(state.arrivals, (((1, 0), (2, 0), (0, 0)), ()))
        self.assertEqual(state.flight, ())

    def test_message_with_several_blocks(self):
        machine = Machine(2, [3], [
            (1, [("alloc", 0, 0), ("alloc", 0, 1)]), (0, [("free", 0), ("free", 1)]),
        ], batch=2)
        rows = machine.run(moves_of("0 0 0 0 1 1 1 carry0"))
        self.assertEqual(rows[-1][1], ("carry", 1, 2))
        self.assertEqual(rows[-1][0].arrivals, ((), ((0, 1), (0, 0))))

    def test_no_message(self):
        self.assertNotIn("carry", [word for word, _ in self.MACHINE.moves(self.MACHINE.start)])

    def test_message_goes_to_the_socket_to_which_it_was_sent(self):
        machine = Machine(3, [1], [
            (0, [("alloc", 0, 0), ("alloc", 0, 1)]), (1, [("free", 0)]), (2, [("adopt", 1)]),
        ])
        self.assertEqual(events_of(machine, "0 0 0 0 0 0 1 1 2 carry0")[-2:], [("adopt", 1, 0), ("carry", 0, 1)])


class StopTests(unittest.TestCase):
    MACHINE = Machine(2, [3], [(0, [("alloc", 0, 0), ("drain",)]), (1, [("free", 0)]), (1, [])], batch=2, stops=1)

    def test_running_threads_can_be_stopped(self):
        self.assertEqual(self.MACHINE.moves(self.MACHINE.start), [("step", 0), ("stop", 0), ("stop", 1)])
        self.assertEqual(events_of(self.MACHINE, "stop0"), [("stop", 0)])
        self.assertEqual(events_of(self.MACHINE, "stop1"), [("stop", 1)])

    def test_stopped_thread_keeps_its_blocks_and_never_moves_again(self):
        state = state_behind(self.MACHINE, "0 0 stop0")
        self.assertEqual(state.threads[0], ("stopped", 0, "over", (), (((0, 0), (0, 1)),), (((),), ((),))))
        self.assertEqual(self.MACHINE.moves(state), [("recover", 0)])

    def test_amount_of_stops(self):
        program = [("drain",)]
        for stops in range(4):
            machine = Machine(1, [1], [(0, program)] * 3, stops=stops)
            state = machine.start
            for number in range(3):
                self.assertEqual(("stop", number) in machine.moves(state), number < stops)
                if number < stops:
                    state = machine.step(state, ("stop", number))[0]

    def test_recovered_threads_were_stopped(self):
        state = state_behind(self.MACHINE, "stop0 recover0")
        self.assertEqual(self.MACHINE.moves(state), [])
        state = state_behind(changed(self.MACHINE, stops=2), "stop0 recover0")
        self.assertEqual(changed(self.MACHINE, stops=2).moves(state), [("stop", 1)])

    def test_threads_that_do_not_run_are_not_stopped(self):
        machine = changed(self.MACHINE, stops=6)
        self.assertNotIn(("stop", 2), machine.moves(machine.start))
        state = state_behind(machine, "stop0")
        self.assertNotIn(("stop", 0), machine.moves(state))
        state = state_behind(machine, "stop0 recover0")
        self.assertNotIn(("stop", 0), machine.moves(state))
        self.assertNotIn(("recover", 0), machine.moves(state))

    def test_running_and_ended_threads_are_not_recovered(self):
        moves = self.MACHINE.moves(self.MACHINE.start)
        self.assertNotIn("recover", [word for word, _ in moves])


class PhaseTests(unittest.TestCase):
    """A thread that is stopped in each of its phases."""

    MACHINE = Machine(2, [4, 2], [
        (0, [("alloc", 0, 0), ("alloc", 0, 1), ("alloc", 0, 2)]),
        (1, [("free", 0), ("free", 1)]),
        (0, [("drain",), ("alloc", 1, 3), ("alloc", 0, 4), ("free", 2)]),
    ], batch=2, slots=5, stops=1)
    # Two blocks of page 0 arrive at socket 0, one after the other; slot 2 has a third one.
    BEGIN = "0 0 0 0 0 0 0 1 1 1 carry0 "

    def stopped(self, text, machine=None):
        machine = machine or self.MACHINE
        thread = len(machine.threads) - 1
        rows = machine.run(moves_of(text + f" stop{thread} recover{thread}"))
        (before, _), (state, event), (recovered, last) = rows[-3:]
        self.assertEqual(event, ("stop", thread))
        row = before.threads[thread]
        self.assertEqual(state.threads[thread], ("stopped", row[1], "over", *row[3:]))
        self.assertEqual(state.key[:2] + state.key[3:], before.key[:2] + before.key[3:])
        empty = ((),) * len(machine.classes)
        self.assertEqual(recovered.threads[thread], (
            "recovered", row[1], "over", (), empty, (empty,) * machine.sockets,
        ))
        self.assertEqual([recovered.pages, recovered.slots, recovered.flight], [state.pages, state.slots, state.flight])
        return row[2], recovered.arrivals, last

    def test_begin(self):
        self.assertEqual(
            self.stopped(self.BEGIN), ("begin", (((0, 1), (0, 0)), ()), ("recover", 0)),
        )

    def test_hand(self):
        self.assertEqual(self.stopped(self.BEGIN + "2"), ("hand", (((0, 1), (0, 0)), ()), ("recover", 2)))
        self.assertEqual(self.stopped(self.BEGIN + "2 2"), ("hand", (((0, 0),), ()), ("recover", 1)))
        self.assertEqual(self.stopped(self.BEGIN + "2 2 2 2"), ("hand", ((), ()), ("recover", 0)))

    def test_cache_in_begin(self):
        text = self.BEGIN + "2 2 2 2 2 2"
        self.assertEqual(self.stopped(text), ("begin", (((1, 0),), ()), ("recover", 1)))
        text = self.BEGIN + "2 2 2 2 2 2 2 2 2"
        self.assertEqual(self.stopped(text), ("begin", (((0, 1), (1, 0)), ()), ("recover", 2)))

    def test_flush(self):
        text = self.BEGIN + "2 2 2 2 2 2 2 2 2 2"
        self.assertEqual(self.stopped(text), ("flush", (((0, 1), (0, 3), (1, 0)), ()), ("recover", 3)))

    def test_send(self):
        machine = Machine(2, [4], [(0, [("alloc", 0, 0)]), (1, [("free", 0), ("drain",)])], stops=1)
        self.assertEqual(self.stopped("0 0 0 1", machine), ("send", (((0, 0),), ()), ("recover", 1)))

    def test_waiting(self):
        machine = Machine(1, [4], [(0, [("free", 0)])], stops=1)
        state = machine.after([("stop", 0)])
        self.assertEqual(state.threads[0], ("stopped", 0, "over", (), ((),), (((),),)))


class RecoverTests(unittest.TestCase):
    def test_hand_then_caches_by_class_then_batches_by_socket_and_class(self):
        machine = Machine(3, [2, 2], [
            (0, [("alloc", 0, 0), ("alloc", 1, 1)]), (2, [("alloc", 0, 2), ("alloc", 1, 3)]),
            (1, [("alloc", 1, 4), ("alloc", 0, 5), ("free", 3), ("free", 2), ("free", 1), ("free", 0), ("free", 6)]),
            (0, [("adopt", 4), ("adopt", 5)]),
        ], pages=8, batch=2, slots=7, stops=1)
        text = "0 0 0 0 0 0 0 0 1 1 1 1 1 1 1 1 2 2 2 2 2 2 2 2 2 2 "
        state = state_behind(machine, text)
        self.assertEqual(state.threads[2][3:], (
            (), (((5, 0),), ((4, 0),)),
            ((((0, 1),), ((1, 1),)), ((), ()), (((2, 1),), ((3, 1),))),
        ))
        rows = machine.run(moves_of(text + "stop2 recover2"))
        self.assertEqual(rows[-1][1], ("recover", 6))
        self.assertEqual(rows[-1][0].arrivals, (
            ((0, 1), (1, 1)), ((5, 0), (4, 0)), ((2, 1), (3, 1)),
        ))
        # The homes are those that the pages have at the recovery.
        rows = machine.run(moves_of(text + "stop2 3 3 recover2"))
        self.assertEqual([event for _, event in rows[-3:-1]], [("adopt", 4, 1), ("adopt", 5, 1)])
        self.assertEqual(rows[-1][0].arrivals, (
            ((5, 0), (4, 0), (0, 1), (1, 1)), (), ((2, 1), (3, 1)),
        ))

    def test_hand_before_cache(self):
        machine = Machine(2, [2, 3], [
            (0, [("alloc", 0, 0), ("alloc", 0, 1)]), (1, [("free", 0), ("free", 1)]),
            (0, [("alloc", 1, 2), ("drain",)]),
        ], batch=2, slots=3, stops=1)
        text = "0 0 0 0 2 2 2 1 1 1 carry0 2 "
        state = state_behind(machine, text)
        self.assertEqual(state.threads[2][3:5], (((0, 1), (0, 0)), ((), ((1, 0),))))
        self.assertEqual(state_behind(machine, text + "stop2 recover2").arrivals[0], ((0, 1), (0, 0), (1, 0)))

    def test_behind_what_has_arrived(self):
        machine = Machine(2, [2], [
            (0, [("alloc", 0, 0)]), (1, [("free", 0)]), (0, [("alloc", 0, 1), ("drain",)]),
        ], slots=2, stops=1)
        text = "0 0 0 2 2 1 1 carry0 "
        state = state_behind(machine, text)
        self.assertEqual([state.arrivals, state.threads[2][4]], [(((0, 0),), ()), (((0, 1),),)])
        self.assertEqual(state_behind(machine, text + "stop2 recover2").arrivals, (((0, 0), (0, 1)), ()))


class SweepTests(unittest.TestCase):
    def test_example(self):
        machine = Machine(2, [1], [(0, [("alloc", 0, 0)]), (1, [("free", 0)])], pages=1)
        rows = machine.run(moves_of("0 0 0 1 1 carry0 sweep0"))
        self.assertEqual([event for _, event in rows], [
            ("take", 0), ("open", 0), ("hit", (0, 0)), ("batch", (0, 0)), ("send", 0, 1), ("carry", 0, 1),
            ("sweep", 1),
        ])
        self.assertEqual(rows[4][0].flight, ((0, ((0, 0),)),))
        self.assertEqual(rows[5][0].arrivals, (((0, 0),), ()))
        self.assertEqual(rows[6][0].pages, (STORE,))

    def test_only_with_arrivals_and_without_a_running_thread(self):
        machine = Machine(2, [1], [
            (0, [("alloc", 0, 0), ("alloc", 0, 1)]), (1, [("free", 0)]), (0, [("free", 1), ("drain",)]),
        ], stops=1)
        text = "0 0 0 0 0 0 1 1 carry0 "
        state = state_behind(machine, text)
        self.assertEqual(machine.moves(state), [("step", 2), ("stop", 2)])
        # Stopped threads do not run, nor do recovered and ended ones.
        self.assertIn(("sweep", 0), machine.moves(state_behind(machine, text + "stop2")))
        self.assertIn(("sweep", 0), machine.moves(state_behind(machine, text + "stop2 recover2")))
        self.assertNotIn(("sweep", 0), machine.moves(state_behind(machine, text + "stop2 sweep0")))
        self.assertNotIn(("sweep", 1), machine.moves(state))

    def test_waiting_threads_are_running(self):
        machine = Machine(2, [1], [(0, [("alloc", 0, 0), ("free", 1)]), (1, [("free", 0)])])
        self.assertEqual(machine.moves(state_behind(machine, "0 0 0 1 1 carry0")), [])

    def test_blocks_are_brought_home_in_their_order(self):
        machine = Machine(2, [3], [(0, [("alloc", 0, 0), ("alloc", 0, 1)]), (1, [("free", 1), ("free", 0)])])
        rows = machine.run(moves_of("0 0 0 0 0 0 1 1 1 1 carry0 carry0 sweep0"))
        self.assertEqual(rows[-2][0].arrivals, (((0, 1), (0, 0)), ()))
        self.assertEqual(rows[-1][1], ("sweep", 2))
        # All three blocks are in the list, so that the page goes to the store.
        self.assertEqual(rows[-1][0].pages[0], STORE)
        machine = changed(machine, classes=[4], threads=[
            (0, [("alloc", 0, 0), ("alloc", 0, 1), ("alloc", 0, 2)]), (1, [("free", 1), ("free", 0)]),
        ], slots=3)
        state = state_behind(machine, "0 0 0 0 0 0 0 0 0 1 1 1 1 carry0 carry0 sweep0")
        self.assertEqual(state.pages[0], ("small", 0, 0, (3, 1, 0)))
        self.assertEqual(state.arrivals, ((), ()))

    def test_page_that_becomes_spare(self):
        machine = changed(senders(1, 1), spare=1)
        state = state_behind(machine, "0 0 0 0 0 0 2 2 1 1 carry0 carry0 sweep0")
        self.assertEqual(state.pages, (STORE, ("spare", 0), STORE, STORE))

    def test_blocks_of_adopted_pages_are_messages_of_their_own(self):
        machine = Machine(3, [2, 2], [
            (0, [("alloc", 0, 0), ("alloc", 0, 1), ("alloc", 1, 2), ("alloc", 1, 3)]),
            (1, [("free", 0), ("free", 2), ("adopt", 1)]), (2, [("adopt", 3)]),
        ], slots=4)
        text = "0 0 0 0 0 0 0 0 0 0 0 0 1 1 1 1 carry0 carry0 1 2 "
        rows = machine.run(moves_of(text + "sweep0"))
        self.assertEqual(rows[-2][0].arrivals, (((0, 0), (1, 0)), (), ()))
        self.assertEqual(rows[-1][1], ("sweep", 2))
        self.assertEqual(rows[-1][0].arrivals, ((), (), ()))
        self.assertEqual(rows[-1][0].flight, ((1, ((0, 0),)), (2, ((1, 0),))))
        self.assertEqual(events_of(machine, text + "sweep0 carry1 sweep2 carry0 sweep1")[-4:], [
            ("carry", 2, 1), ("sweep", 1), ("carry", 1, 1), ("sweep", 1),
        ])

    def test_socket_without_threads(self):
        machine = Machine(2, [1], [(0, [("alloc", 0, 0), ("free", 0)])])
        self.assertEqual(machine.moves(machine.start), [("step", 0)])


if __name__ == "__main__":
    unittest.main()
