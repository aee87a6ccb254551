"""homefrees.machine: point [4], what the steps of each operation do, and when a thread waits."""

import unittest

from homefrees.machine import Machine
from support import events_of, moves_of, state_behind

NOTHING = ("nothing",)
FAILURE = ("failure",)
STORE = ("store",)


def alone(*program, **parameters):
    """Return a machine with one thread on socket 0, and one class of one block unless told otherwise."""
    parameters = {"sockets": 1, "classes": [1], **parameters}
    return Machine(threads=[(0, program)], **parameters)


def steps(many):
    """Return the text of so many steps of thread 0."""
    return " ".join(["0"] * many)


def running(at, phase, hand=(), cache=(), batches=(((),),)):
    """Return what a state tells of a running thread of a machine with one class."""
    return ("running", at, phase, hand, (cache,), batches)


class StepTest(unittest.TestCase):
    def assert_events(self, machine, text, expected):
        self.assertEqual(events_of(machine, text), expected)

    def assert_waits(self, machine, text, number=0):
        """The thread waits behind the moves; the state is returned."""
        state = state_behind(machine, text)
        self.assertEqual(state.threads[number][0], "running")
        self.assertNotIn(("step", number), machine.moves(state))
        return state


class AllocTests(StepTest):
    def test_phases(self):
        machine = alone(("alloc", 0, 0), classes=[3], pages=2, batch=2)
        rows = machine.run(moves_of("0 0 0 0"))
        self.assertEqual(
            [event for _, event in rows], [("take", 0), ("open", 0), ("hit", (0, 1)), ("home", (0, 0))],
        )
        self.assertEqual([machine.start.threads[0]] + [state.threads[0] for state, _ in rows], [
            running(0, "begin"),
            running(0, "hand"),
            running(0, "begin", cache=((0, 0), (0, 1))),
            running(1, "flush", cache=((0, 0),)),
            ("ended", 1, "over", (), ((),), (((),),)),
        ])
        self.assertEqual([state.pages[0] for state, _ in rows], [
            STORE, ("small", 0, 0, (2,)), ("small", 0, 0, (2,)), ("small", 0, 0, (2, 0)),
        ])
        self.assertEqual([state.slots[0] for state, _ in rows], [None, None, ("block", 0, 1), ("block", 0, 1)])

    def test_hit_takes_the_last_block_of_the_cache_of_its_class(self):
        machine = alone(
            ("alloc", 0, 0), ("alloc", 1, 1), ("alloc", 0, 2), ("alloc", 1, 3), classes=[3, 2], batch=3, slots=4,
        )
        self.assert_events(machine, steps(8), [
            ("take", 0), ("open", 0), ("hit", (0, 2)), ("take", 0), ("open", 1), ("hit", (1, 1)),
            ("hit", (0, 1)), ("hit", (1, 0)),
        ])

    def test_open_fills_at_most_batch_blocks(self):
        for batch in range(1, 7):
            state = state_behind(alone(("alloc", 0, 0), classes=[4], batch=batch), "0 0")
            many = min(batch, 4)
            self.assertEqual(state.threads[0][4], (tuple((0, number) for number in range(many)),))
            self.assertEqual(state.pages[0], ("small", 0, 0, tuple(range(many, 4))))

    def test_fill_takes_the_first_blocks_in_the_order_of_the_list(self):
        program = [("alloc", 0, slot) for slot in range(5)]
        program += [("free", 4), ("free", 2), ("free", 3), ("free", 1)]
        program += [("alloc", 0, slot) for slot in range(1, 5)]
        machine = alone(*program, classes=[6], batch=2, slots=5)
        self.assert_events(machine, steps(21), [
            ("take", 0), ("open", 0), ("hit", (0, 1)), ("hit", (0, 0)),
            ("take", 0), ("fill", 0), ("hit", (0, 3)), ("hit", (0, 2)),
            ("take", 0), ("fill", 0), ("hit", (0, 5)),
            ("keep", (0, 5)), ("home", (0, 3)), ("home", (0, 2)), ("home", (0, 0)),
            ("hit", (0, 5)), ("hit", (0, 4)),
            ("take", 0), ("fill", 0), ("hit", (0, 2)), ("hit", (0, 3)),
        ])
        self.assertEqual(state_behind(machine, steps(19)).pages[0], ("small", 0, 0, (0,)))
        self.assertEqual(state_behind(machine, steps(19)).threads[0][4], (((0, 3), (0, 2)),))

    def test_fill_takes_the_lowest_page_with_blocks(self):
        program = [("alloc", 0, slot) for slot in range(4)] + [("free", 3), ("free", 2), ("free", 0)]
        machine = alone(*program, ("alloc", 0, 0), ("alloc", 0, 2), classes=[2], slots=4)
        state = state_behind(machine, steps(16))
        self.assertEqual([use[3] for use in state.pages[:2]], [(0,), (0,)])
        self.assertEqual(events_of(machine, steps(19))[12:], [
            ("keep", (1, 1)), ("home", (1, 0)), ("home", (0, 0)), ("hit", (1, 1)),
            ("take", 0), ("fill", 0), ("hit", (0, 0)),
        ])

    def test_no_fill_from_a_page_of_another_class(self):
        machine = alone(("alloc", 0, 0), ("alloc", 1, 1), classes=[2, 2])
        self.assert_events(machine, steps(6), [
            ("take", 0), ("open", 0), ("hit", (0, 0)), ("take", 0), ("open", 1), ("hit", (1, 0)),
        ])
        self.assertEqual(state_behind(machine, steps(6)).pages[1], ("small", 0, 1, (1,)))

    def test_no_fill_from_a_page_with_another_home(self):
        machine = Machine(2, [2], [(0, [("alloc", 0, 0)]), (1, [("alloc", 0, 1)])])
        self.assert_events(machine, "0 0 0 1 1 1", [
            ("take", 0), ("open", 0), ("hit", (0, 0)), ("take", 0), ("open", 1), ("hit", (1, 0)),
        ])
        self.assertEqual(state_behind(machine, "0 0 0 1 1 1").pages[1], ("small", 1, 0, (1,)))

    def test_fill_from_an_adopted_page(self):
        machine = Machine(2, [2], [(0, [("alloc", 0, 0)]), (1, [("adopt", 0), ("alloc", 0, 1)])])
        self.assert_events(machine, "0 0 0 1 1 1 1", [
            ("take", 0), ("open", 0), ("hit", (0, 0)), ("adopt", 0, 0), ("take", 0), ("fill", 0), ("hit", (0, 1)),
        ])

    def test_threads_of_a_socket_fill_from_the_same_page(self):
        machine = Machine(1, [2], [(0, [("alloc", 0, 0)]), (0, [("alloc", 0, 1)])])
        self.assert_events(machine, "0 1 0 1 1 0", [
            ("take", 0), ("take", 0), ("open", 0), ("fill", 0), ("hit", (0, 1)), ("hit", (0, 0)),
        ])

    def test_open_takes_the_lowest_spare_page_before_the_store(self):
        # Page 2 comes home first and is spare, page 1 then goes to the store, page 0 is in the cache.
        program = [("alloc", 0, 0), ("alloc", 0, 1), ("alloc", 0, 2), ("free", 0), ("free", 2), ("free", 1)]
        machine = alone(*program, ("alloc", 0, 0), ("alloc", 0, 1), spare=1, slots=3)
        state = state_behind(machine, steps(12))
        self.assertEqual(state.pages, (("small", 0, 0, ()), STORE, ("spare", 0), STORE))
        self.assert_events(machine, steps(16), events_of(machine, steps(12)) + [
            ("hit", (0, 0)), ("take", 0), ("open", 2), ("hit", (2, 0)),
        ])
        state = state_behind(machine, steps(16))
        self.assertEqual(state.pages, (("small", 0, 0, ()), STORE, ("small", 0, 0, ()), STORE))

    def test_open_takes_the_lower_one_of_two_spare_pages_for_any_class(self):
        program = [("alloc", 0, 0), ("alloc", 0, 1), ("alloc", 0, 2), ("free", 0), ("free", 2), ("free", 1)]
        machine = alone(*program, ("alloc", 1, 1), classes=[1, 3], spare=2, slots=3)
        state = state_behind(machine, steps(12))
        self.assertEqual(state.pages, (("small", 0, 0, ()), ("spare", 0), ("spare", 0), STORE))
        self.assert_events(machine, steps(15), events_of(machine, steps(12)) + [
            ("take", 0), ("open", 1), ("hit", (1, 0)),
        ])
        self.assertEqual(state_behind(machine, steps(15)).pages[1], ("small", 0, 1, (1, 2)))

    def test_spare_pages_of_other_sockets_are_not_opened(self):
        machine = Machine(
            2, [1], [(0, [("alloc", 0, 0), ("free", 0)]), (1, [("alloc", 0, 0), ("alloc", 0, 1)])], pages=2, spare=1,
        )
        self.assert_events(machine, "0 0 0 0 0 1 1 1 1 1", [
            ("take", 0), ("open", 0), ("hit", (0, 0)), ("keep", (0, 0)), ("home", (0, 0)),
            ("take", 0), ("open", 1), ("hit", (1, 0)), ("take", 0), ("fail",),
        ])
        self.assertEqual(state_behind(machine, "0 0 0 0 0 1 1").pages, (("spare", 0), ("small", 1, 0, ())))

    def test_failure(self):
        machine = alone(("alloc", 0, 0), ("alloc", 0, 1), ("drain",), pages=1)
        self.assert_events(machine, steps(5), [("take", 0), ("open", 0), ("hit", (0, 0)), ("take", 0), ("fail",)])
        state = state_behind(machine, steps(5))
        self.assertEqual(state.slots, (("block", 0, 0), FAILURE))
        self.assertEqual(state.threads[0], running(2, "begin"))

    def test_arrivals_are_taken_and_brought_home_one_by_one(self):
        machine = Machine(2, [3], [
            (0, [("alloc", 0, 0), ("alloc", 0, 1), ("alloc", 0, 3)]), (1, [("free", 0), ("free", 1)]),
            (0, [("alloc", 0, 2)]),
        ], batch=2, slots=4)
        begin = "0 0 0 0 0 0 0 1 1 1 carry0 "
        rows = machine.run(moves_of(begin + "2 2 2 2 2 2"))
        self.assertEqual([event for _, event in rows[7:]], [
            ("batch", (0, 1)), ("batch", (0, 0)), ("send", 0, 2), ("carry", 0, 2),
            ("take", 2), ("home", (0, 1)), ("home", (0, 0)), ("fill", 0), ("hit", (0, 0)), ("home", (0, 1)),
        ])
        self.assertEqual(rows[10][0].arrivals, (((0, 1), (0, 0)), ()))
        self.assertEqual([state.arrivals for state, _ in rows[11:]], [((), ())] * 6)
        self.assertEqual([state.threads[2][2:4] for state, _ in rows[11:15]], [
            ("hand", ((0, 1), (0, 0))), ("hand", ((0, 0),)), ("hand", ()), ("begin", ()),
        ])
        self.assertEqual([state.pages[0][3] for state, _ in rows[11:15]], [(), (1,), (1, 0), ()])

    def test_a_block_of_an_adopted_page_is_passed_on(self):
        machine = Machine(2, [2], [
            (0, [("alloc", 0, 0), ("alloc", 0, 1)]), (1, [("free", 0), ("adopt", 1)]), (0, [("alloc", 0, 0)]),
        ], slots=2)
        text = "0 0 0 0 0 0 1 1 carry0 1 2 2 2 2 carry0 sweep1"
        self.assert_events(machine, text, [
            ("take", 0), ("open", 0), ("hit", (0, 0)), ("take", 0), ("fill", 0), ("hit", (0, 1)),
            ("batch", (0, 0)), ("send", 0, 1), ("carry", 0, 1), ("adopt", 0, 0),
            ("take", 1), ("pass", (0, 0)), ("open", 1), ("hit", (1, 0)), ("carry", 1, 1), ("sweep", 1),
        ])
        self.assertEqual(state_behind(machine, "0 0 0 0 0 0 1 1 carry0 1 2 2").flight, ((1, ((0, 0),)),))
        self.assertEqual(state_behind(machine, text).pages[0], ("small", 1, 0, (0,)))


class AllocWaitingTests(StepTest):
    def test_hit_waits_for_an_empty_slot(self):
        machine = Machine(1, [1], [(0, [("alloc", 0, 0), ("alloc", 0, 0)]), (0, [("free", 0)])])
        # It takes and opens before it waits.
        state = self.assert_waits(machine, "0 0 0 0 0")
        self.assertEqual(state.threads[0], running(1, "begin", cache=((1, 0),)))
        self.assertEqual(machine.moves(state), [("step", 1)])
        self.assert_events(machine, "0 0 0 0 0 1 0", [
            ("take", 0), ("open", 0), ("hit", (0, 0)), ("take", 0), ("open", 1), ("keep", (0, 0)), ("hit", (1, 0)),
        ])

    def test_fill_does_not_wait(self):
        machine = alone(("alloc", 0, 0), ("alloc", 0, 0), classes=[2])
        self.assert_waits(machine, steps(5))
        self.assertEqual(events_of(machine, steps(5))[3:], [("take", 0), ("fill", 0)])

    def test_fill_does_not_wait_though_there_is_no_page_to_open(self):
        machine = alone(("alloc", 0, 0), ("alloc", 0, 0), classes=[2], pages=1)
        self.assertEqual(events_of(machine, steps(5))[3:], [("take", 0), ("fill", 0)])
        self.assert_waits(machine, steps(5))

    def test_bringing_home_does_not_wait(self):
        machine = Machine(2, [2], [
            (0, [("alloc", 0, 0), ("alloc", 0, 1), ("alloc", 0, 1)]), (1, [("free", 0)]),
        ])
        text = "0 0 0 0 0 0 1 1 carry0"
        self.assertEqual(events_of(machine, text + " 0 0 0")[9:], [("take", 1), ("home", (0, 0)), ("fill", 0)])
        self.assert_waits(machine, text + " 0 0 0")

    def test_bringing_home_does_not_wait_though_there_is_no_page(self):
        machine = Machine(2, [1], [
            (0, [("alloc", 0, 0), ("alloc", 0, 1)]), (1, [("free", 0), ("large", 1, 1)]),
        ], pages=1)
        text = "0 0 0 1 1 1 carry0 0 "
        self.assertEqual(state_behind(machine, text).slots, (None, FAILURE))
        self.assertEqual(events_of(machine, text + "0 0")[7:], [("take", 1), ("home", (0, 0)), ("open", 0)])
        self.assert_waits(machine, text + "0 0")

    def test_failure_waits_for_an_empty_slot(self):
        machine = Machine(1, [1], [(0, [("alloc", 0, 0), ("alloc", 0, 0)]), (0, [("adopt", 0), ("free", 0)])], pages=1)
        state = self.assert_waits(machine, "0 0 0 0")
        self.assertEqual(state.threads[0], running(1, "hand"))
        # Behind the freeing thread the block is home again, so that it can open the page.
        self.assert_events(machine, "0 0 0 0 1 1 1 0 0", [
            ("take", 0), ("open", 0), ("hit", (0, 0)), ("take", 0), ("adopt", 0, 0), ("keep", (0, 0)),
            ("home", (0, 0)), ("open", 0), ("hit", (0, 0)),
        ])
        # Between the two, the slot is empty and no page is there.
        self.assertEqual(events_of(machine, "0 0 0 0 1 1 0")[-1], ("fail",))

    def test_page_that_comes_free_ends_the_waiting(self):
        machine = Machine(1, [1], [(0, [("large", 1, 1), ("alloc", 0, 0)]), (0, [("large", 1, 0)]), (0, [("free", 1)])],
                          pages=2)
        state = self.assert_waits(machine, "0 1 0")
        self.assertEqual([use[0] for use in state.pages], ["large", "large"])
        self.assertEqual(events_of(machine, "0 1 0 2 0")[3:], [("return", 0, 1), ("open", 0)])
        self.assert_waits(machine, "0 1 0 2 0")

    def test_stuck_thread(self):
        machine = alone(("alloc", 0, 0), ("alloc", 0, 0))
        state = self.assert_waits(machine, steps(5))
        self.assertEqual(machine.moves(state), [])


class FreeTests(StepTest):
    def test_waits_for_a_full_slot(self):
        machine = Machine(1, [1], [(0, [("free", 0)]), (0, [("alloc", 0, 0)])])
        self.assert_waits(machine, "")
        self.assert_events(machine, "1 1 1 0 0", [
            ("take", 0), ("open", 0), ("hit", (0, 0)), ("keep", (0, 0)), ("home", (0, 0)),
        ])

    def test_failure(self):
        machine = alone(("large", 5, 0), ("free", 0), ("drain",))
        self.assert_events(machine, steps(2), [("fail",), NOTHING])
        self.assertEqual(state_behind(machine, steps(2)).slots, (None, None))
        self.assertEqual(state_behind(machine, steps(2)).threads[0], running(2, "begin"))

    def test_large_block(self):
        machine = alone(("large", 1, 0), ("large", 2, 1), ("free", 1), ("drain",))
        self.assertEqual(events_of(machine, steps(3)), [("large", 0, 1), ("large", 1, 2), ("return", 1, 2)])
        state = state_behind(machine, steps(3))
        self.assertEqual(state.pages, (("large", 0), STORE, STORE, STORE))
        self.assertEqual(state.slots, (("large", 0, 1), None))

    def test_blocks_at_home_go_to_the_cache_until_it_is_full(self):
        program = [("alloc", 0, slot) for slot in range(4)] + [("free", slot) for slot in range(4)]
        machine = alone(*program, ("drain",), classes=[5], batch=2, slots=4)
        self.assertEqual(events_of(machine, steps(12))[8:], [
            ("keep", (0, 1)), ("keep", (0, 0)), ("home", (0, 3)), ("home", (0, 2)),
        ])
        state = state_behind(machine, steps(12))
        self.assertEqual(state.threads[0][4], (((0, 1), (0, 0)),))
        self.assertEqual(state.pages[0], ("small", 0, 0, (4, 3, 2)))
        self.assertEqual(state.slots, (None,) * 4)

    def test_cache_of_the_class_of_the_page(self):
        machine = alone(("alloc", 0, 0), ("alloc", 1, 1), ("free", 1), ("free", 0), ("drain",), classes=[2, 2])
        self.assertEqual(events_of(machine, steps(8))[6:], [("keep", (1, 0)), ("keep", (0, 0))])
        self.assertEqual(state_behind(machine, steps(8)).threads[0][4], (((0, 0),), ((1, 0),)))

    def test_blocks_of_other_homes_go_to_the_batch(self):
        machine = Machine(3, [2, 2], [
            (0, [("alloc", 0, 0), ("alloc", 1, 1)]), (2, [("alloc", 0, 2)]),
            (1, [("free", 0), ("free", 1), ("free", 2), ("drain",)]),
        ], batch=2, slots=3)
        begin = "0 0 0 0 0 0 0 0 1 1 1 1 "
        state = state_behind(machine, begin + "2 2 2")
        self.assertEqual(events_of(machine, begin + "2 2 2")[12:], [
            ("batch", (0, 1)), ("batch", (1, 1)), ("batch", (2, 1)),
        ])
        self.assertEqual(state.threads[2], (
            "running", 3, "begin", (), ((), ()), ((((0, 1),), ((1, 1),)), ((), ()), (((2, 1),), ())),
        ))
        self.assertEqual(state.flight, ())

    def test_full_batch_is_sent_in_the_next_step(self):
        machine = Machine(2, [3], [
            (1, [("alloc", 0, slot) for slot in range(3)]), (0, [("free", slot) for slot in range(3)] + [("drain",)]),
        ], batch=2, slots=3)
        begin = "0 0 0 0 0 0 0 "
        rows = machine.run(moves_of(begin + "1 1 1 1"))
        self.assertEqual([event for _, event in rows[7:]], [
            ("batch", (0, 1)), ("batch", (0, 0)), ("send", 1, 2), ("batch", (0, 2)),
        ])
        self.assertEqual([state.threads[1] for state, _ in rows[7:]], [
            running(1, "begin", batches=(((),), (((0, 1),),))),
            running(1, "send", batches=(((),), (((0, 1), (0, 0)),))),
            running(2, "begin", batches=(((),), ((),))),
            running(3, "begin", batches=(((),), (((0, 2),),))),
        ])
        self.assertEqual(rows[9][0].flight, ((1, ((0, 1), (0, 0))),))
        self.assertEqual([state.slots[1] for state, _ in rows[7:]], [("block", 0, 0), None, None, None])

    def test_sending_does_not_wait_for_the_slot(self):
        machine = Machine(2, [1], [(0, [("alloc", 0, 0)]), (1, [("free", 0)])])
        state = state_behind(machine, "0 0 0 1")
        self.assertEqual(state.slots, (None, None))
        self.assertIn(("step", 1), machine.moves(state))

    def test_the_full_one_of_several_batches_is_sent(self):
        machine = Machine(3, [2], [
            (0, [("alloc", 0, 0)]), (2, [("alloc", 0, 1), ("alloc", 0, 2)]),
            (1, [("free", 0), ("free", 1), ("free", 2), ("drain",)]),
        ], batch=2, slots=3)
        text = "0 0 0 0 1 1 1 1 2 2 2 2"
        self.assertEqual(events_of(machine, text)[8:], [
            ("batch", (0, 1)), ("batch", (1, 1)), ("batch", (1, 0)), ("send", 2, 2),
        ])
        self.assertEqual(state_behind(machine, text).threads[2][5], ((((0, 1),),), ((),), ((),)))


class AdoptTests(StepTest):
    def test_from_another_home(self):
        machine = Machine(2, [2], [(0, [("alloc", 0, 0)]), (1, [("adopt", 0), ("drain",)])])
        self.assertEqual(events_of(machine, "0 0 0 1")[3], ("adopt", 0, 0))
        state = state_behind(machine, "0 0 0 1")
        self.assertEqual(state.pages[0], ("small", 1, 0, (1,)))
        self.assertEqual(state.slots[0], ("block", 0, 0))
        self.assertEqual(state.threads[1][:3], ("running", 1, "begin"))

    def test_from_the_own_home(self):
        machine = Machine(2, [2], [(1, [("alloc", 0, 0), ("adopt", 0)])])
        self.assertEqual(events_of(machine, "0 0 0 0")[3], ("adopt", 0, 1))
        self.assertEqual(state_behind(machine, "0 0 0 0").pages[0], ("small", 1, 0, (1,)))

    def test_no_block(self):
        machine = alone(("large", 1, 0), ("large", 4, 1), ("adopt", 0), ("adopt", 1))
        self.assert_events(machine, steps(4), [("large", 0, 1), ("fail",), NOTHING, NOTHING])
        self.assertEqual(state_behind(machine, steps(4)).slots, (("large", 0, 1), FAILURE))

    def test_waits_for_a_full_slot(self):
        machine = Machine(1, [1], [(0, [("adopt", 0)]), (0, [("large", 1, 0)])])
        self.assert_waits(machine, "")
        self.assert_events(machine, "1 0", [("large", 0, 1), NOTHING])

    def test_page_adopted_while_blocks_of_it_are_away(self):
        machine = Machine(2, [2], [
            (0, [("alloc", 0, 0), ("alloc", 0, 1)]), (1, [("adopt", 0), ("free", 1), ("free", 0), ("drain",)]),
        ], batch=2)
        # Block 0 is in the cache of thread 0 when its page gets another home, and then in a slot.
        self.assertEqual(events_of(machine, "0 0 0 1 0 1 1")[3:], [
            ("adopt", 0, 0), ("hit", (0, 0)), ("keep", (0, 0)), ("keep", (0, 1)),
        ])
        machine = Machine(2, [2], [(0, [("alloc", 0, 0)]), (1, [("adopt", 0)])], batch=2)
        self.assertEqual(events_of(machine, "0 0 0 1 0 carry0 sweep1")[3:], [
            ("adopt", 0, 0), ("pass", (0, 0)), ("carry", 1, 1), ("sweep", 1),
        ])

    def test_batch_keeps_the_home_that_it_was_for(self):
        machine = Machine(3, [2], [
            (0, [("alloc", 0, 0), ("alloc", 0, 1)]), (1, [("free", 0)]), (2, [("adopt", 1)]), (0, [("drain",)]),
        ], batch=2)
        text = "0 0 0 0 1 2 1 carry0 3 3 carry0 sweep2"
        self.assertEqual(events_of(machine, text)[4:], [
            ("batch", (0, 1)), ("adopt", 0, 0), ("send", 0, 1), ("carry", 0, 1), ("take", 1), ("pass", (0, 1)),
            ("carry", 2, 1), ("sweep", 1),
        ])
        self.assertEqual(state_behind(machine, text).pages[0], ("small", 2, 0, (1,)))


class LargeTests(StepTest):
    def test_lowest_neighbouring_pages(self):
        machine = alone(
            ("large", 1, 0), ("large", 2, 1), ("large", 1, 2), ("free", 1), ("large", 3, 1), ("large", 2, 3),
            ("large", 1, 4), pages=8, slots=5,
        )
        self.assert_events(machine, steps(7), [
            ("large", 0, 1), ("large", 1, 2), ("large", 3, 1), ("return", 1, 2), ("large", 4, 3), ("large", 1, 2),
            ("large", 7, 1),
        ])
        state = state_behind(machine, steps(7))
        self.assertEqual([use[1] for use in state.pages], [0, 1, 1, 3, 4, 4, 4, 7])
        self.assertEqual(state.slots[1], ("large", 4, 3))

    def test_all_pages_and_one_too_many(self):
        for pages in (1, 2, 8):
            self.assert_events(alone(("large", pages, 0), pages=pages), "0", [("large", 0, pages)])
        for pages in (1, 2, 7):
            machine = alone(("large", pages + 1, 0), ("drain",), pages=pages)
            self.assert_events(machine, "0", [("fail",)])
            self.assertEqual(state_behind(machine, "0").slots[0], FAILURE)
            self.assertEqual(state_behind(machine, "0").pages, (STORE,) * pages)

    def test_pages_that_are_not_neighbours_do_not_fit(self):
        machine = alone(("large", 1, 0), ("large", 1, 1), ("free", 0), ("large", 2, 0), pages=3)
        self.assert_events(machine, steps(4), [("large", 0, 1), ("large", 1, 1), ("return", 0, 1), ("fail",)])

    def test_small_and_spare_pages_are_not_in_the_store(self):
        machine = alone(("alloc", 0, 0), ("free", 0), ("large", 2, 0), pages=2, spare=1)
        self.assertEqual(events_of(machine, steps(5))[3:], [("keep", (0, 0)), ("fail",)])
        machine = Machine(1, [1], [(0, [("alloc", 0, 0), ("free", 0)]), (0, [("large", 2, 0)])], pages=2, spare=1)
        self.assertEqual(events_of(machine, "0 0 0 0 0 1")[4:], [("home", (0, 0)), ("fail",)])

    def test_waits_for_an_empty_slot(self):
        machine = Machine(1, [1], [(0, [("large", 1, 0), ("large", 1, 0)]), (0, [("free", 0)])])
        self.assert_waits(machine, "0")
        self.assert_events(machine, "0 1 0", [("large", 0, 1), ("return", 0, 1), ("large", 0, 1)])

    def test_waits_also_if_it_fails(self):
        self.assert_waits(alone(("large", 1, 0), ("large", 8, 0)), "0")


class GrowTests(StepTest):
    def test_next_page_in_the_store(self):
        machine = alone(("large", 1, 0), ("grow", 0), ("grow", 0), ("grow", 0), ("free", 0), ("drain",), pages=3)
        self.assert_events(machine, steps(5), [
            ("large", 0, 1), ("grow", 0, 2), ("grow", 0, 3), NOTHING, ("return", 0, 3),
        ])
        state = state_behind(machine, "0 0")
        self.assertEqual(state.pages, (("large", 0), ("large", 0), STORE))
        self.assertEqual(state.slots[0], ("large", 0, 2))
        self.assertEqual(state_behind(machine, steps(5)).pages, (STORE,) * 3)

    def test_beyond_eight_pages(self):
        machine = alone(("large", 8, 0), ("grow", 0), ("grow", 0), pages=10)
        self.assert_events(machine, steps(3), [("large", 0, 8), ("grow", 0, 9), ("grow", 0, 10)])

    def test_next_page_is_used(self):
        machine = alone(("large", 1, 0), ("large", 1, 1), ("grow", 0), ("grow", 1))
        self.assert_events(machine, steps(4), [("large", 0, 1), ("large", 1, 1), NOTHING, ("grow", 1, 2)])
        machine = alone(("large", 1, 0), ("alloc", 0, 1), ("grow", 0))
        self.assertEqual(events_of(machine, steps(5))[4], NOTHING)

    def test_no_large_block(self):
        machine = alone(("alloc", 0, 0), ("large", 8, 1), ("grow", 0), ("grow", 1))
        self.assertEqual(events_of(machine, steps(6))[3:], [("fail",), NOTHING, NOTHING])

    def test_waits_for_a_full_slot(self):
        machine = Machine(1, [1], [(0, [("grow", 0)]), (0, [("large", 1, 0)])])
        self.assert_waits(machine, "")
        self.assert_events(machine, "1 0", [("large", 0, 1), ("grow", 0, 2)])


class DrainTests(StepTest):
    MACHINE = Machine(2, [3], [
        (0, [("alloc", 0, slot) for slot in range(3)]), (1, [("free", 0), ("free", 1)]),
        (0, [("drain",), ("drain",)]),
    ], slots=3)
    BEGIN = "0 0 0 0 0 0 0 0 0 1 1 1 1 "

    def test_no_arrivals(self):
        machine = alone(("drain",), ("drain",))
        self.assert_events(machine, "0 0", [("take", 0), ("take", 0)])
        self.assertEqual(state_behind(machine, "0").threads[0], running(1, "begin"))
        self.assertEqual(machine.moves(state_behind(machine, "0 0")), [])

    def test_each_block_is_brought_home_in_a_step(self):
        text = self.BEGIN + "carry0 carry0 2 2 2 2"
        rows = self.MACHINE.run(moves_of(text))[15:]
        self.assertEqual([event for _, event in rows], [("take", 2), ("home", (0, 0)), ("home", (0, 1)), ("take", 0)])
        self.assertEqual([state.threads[2][1:4] for state, _ in rows], [
            (0, "hand", ((0, 0), (0, 1))), (0, "hand", ((0, 1),)), (1, "begin", ()), (2, "over", ()),
        ])
        self.assertEqual([state.pages[0][3] for state, _ in rows], [(), (0,), (0, 1), (0, 1)])

    def test_what_arrives_later_stays(self):
        state = state_behind(self.MACHINE, self.BEGIN + "carry0 2 carry0 2")
        self.assertEqual(state.arrivals, (((0, 1),), ()))
        self.assertEqual(state.threads[2], ("running", 1, "begin", (), ((),), (((),), ((),))))

    def test_a_block_of_an_adopted_page_is_passed_on(self):
        machine = Machine(2, [2], [
            (0, [("alloc", 0, 0), ("alloc", 0, 1)]), (1, [("free", 0), ("adopt", 1)]), (0, [("drain",)]),
        ])
        text = "0 0 0 0 0 0 1 1 carry0 2 1 2"
        self.assertEqual(events_of(machine, text)[9:], [("take", 1), ("adopt", 0, 0), ("pass", (0, 0))])
        self.assertEqual(state_behind(machine, text).flight, ((1, ((0, 0),)),))
        self.assertEqual(state_behind(machine, text).threads[2][:3], ("ended", 1, "over"))


class EndTests(StepTest):
    def test_thread_without_blocks_has_ended_at_once(self):
        state = state_behind(alone(("large", 1, 0)), "0")
        self.assertEqual(state.threads[0], ("ended", 1, "over", (), ((),), (((),),)))

    def test_caches_by_class_and_then_batches_by_socket_and_class(self):
        machine = Machine(3, [2, 2, 2], [
            (2, [("alloc", 1, 0), ("alloc", 0, 1)]), (0, [("alloc", 2, 2), ("alloc", 0, 3)]),
            (1, [("alloc", 2, 4), ("alloc", 0, 5), ("free", 0), ("free", 1), ("free", 2), ("free", 3)]),
        ], pages=8, batch=2, slots=6)
        first = "0 0 0 0 0 0 0 0 1 1 1 1 1 1 1 1 2 2 2 2 2 2 2 2 2 2 "
        state = state_behind(machine, first)
        self.assertEqual(state.threads[2], (
            "running", 6, "flush", (), (((5, 0),), (), ((4, 0),)),
            ((((3, 1),), (), ((2, 1),)), ((), (), ()), (((1, 1),), ((0, 1),), ())),
        ))
        self.assertEqual(events_of(machine, first + "2 2 2 2 2 2")[26:], [
            ("home", (5, 0)), ("home", (4, 0)), ("send", 0, 1), ("send", 0, 1), ("send", 2, 1), ("send", 2, 1),
        ])
        rows = machine.run(moves_of(first + "2 2 2 2 2 2"))
        self.assertEqual([state.threads[2][:3] for state, _ in rows[26:]], [("running", 6, "flush")] * 5 + [
            ("ended", 6, "over"),
        ])
        self.assertEqual(rows[-1][0].flight, (
            (0, ((3, 1),)), (0, ((2, 1),)), (2, ((1, 1),)), (2, ((0, 1),)),
        ))

    def test_first_block_of_a_cache_comes_first(self):
        machine = alone(("alloc", 0, 0), classes=[4], batch=4)
        self.assertEqual(events_of(machine, steps(6))[3:], [("home", (0, 0)), ("home", (0, 1)), ("home", (0, 2))])
        self.assertEqual(state_behind(machine, steps(6)).pages[0], ("small", 0, 0, (0, 1, 2)))

    def test_cached_block_of_an_adopted_page_is_passed_on(self):
        machine = Machine(2, [2], [(0, [("alloc", 0, 0)]), (1, [("adopt", 0)])], batch=2)
        state = state_behind(machine, "0 0 0 1 0")
        self.assertEqual(state.flight, ((1, ((0, 0),)),))
        self.assertEqual(state.threads[0][0], "ended")

    def test_last_operation_that_sends(self):
        machine = Machine(2, [1], [(0, [("alloc", 0, 0)]), (1, [("free", 0)])])
        self.assertEqual(state_behind(machine, "0 0 0 1").threads[1][:3], ("running", 0, "send"))
        self.assertEqual(state_behind(machine, "0 0 0 1 1").threads[1][:3], ("ended", 1, "over"))


class PageTests(StepTest):
    def full(self, spare):
        """Return the pages when three pages of socket 0 have come home, page 2, page 1 and page 0."""
        program = [("alloc", 0, slot) for slot in range(3)] + [("free", slot) for slot in (0, 2, 1)]
        return state_behind(alone(*program, pages=3, slots=3, spare=spare), steps(13)).pages

    def test_room_for_spare_pages(self):
        self.assertEqual(self.full(0), (STORE, STORE, STORE))
        self.assertEqual(self.full(1), (STORE, STORE, ("spare", 0)))
        self.assertEqual(self.full(2), (STORE, ("spare", 0), ("spare", 0)))
        self.assertEqual(self.full(3), (("spare", 0),) * 3)
        self.assertEqual(self.full(8), (("spare", 0),) * 3)

    def test_each_socket_has_its_own_spare_pages(self):
        program = [("alloc", 0, 0), ("free", 0)]
        machine = Machine(2, [1], [(0, program), (1, program)], pages=2, spare=1)
        self.assertEqual(state_behind(machine, "0 0 0 0 0 1 1 1 1 1").pages, (("spare", 0), ("spare", 1)))

    def test_spare_page_of_its_home_at_that_moment(self):
        machine = Machine(2, [1], [(0, [("alloc", 0, 0)]), (1, [("adopt", 0), ("free", 0)])], pages=1, spare=1)
        self.assertEqual(state_behind(machine, "0 0 0 1 1 1").pages, (("spare", 1),))

    def test_page_is_full_with_all_its_blocks_only(self):
        machine = alone(("alloc", 0, 0), ("alloc", 0, 1), ("free", 0), ("free", 1), classes=[3])
        rows = machine.run(moves_of(steps(9)))
        self.assertEqual([event for _, event in rows[6:]], [("keep", (0, 0)), ("home", (0, 1)), ("home", (0, 0))])
        self.assertEqual([state.pages[0] for state, _ in rows[6:]], [
            ("small", 0, 0, (2,)), ("small", 0, 0, (2, 1)), STORE,
        ])

    def test_new_page_has_its_blocks_in_ascending_order(self):
        program = [("alloc", 0, 0), ("alloc", 0, 1), ("free", 1), ("free", 0)]
        machine = Machine(1, [3], [(0, program), (0, [("alloc", 0, 0)])])
        text = steps(9) + " 1 1"
        self.assertEqual(state_behind(machine, text).pages[0], ("small", 0, 0, (1, 2)))
        self.assertEqual(events_of(machine, text)[-1], ("open", 0))


if __name__ == "__main__":
    unittest.main()
