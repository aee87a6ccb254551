"""homefrees.places: point [6], the places of blocks, good and bad states."""

import unittest

from homefrees.machine import Machine
from homefrees.places import is_bad, is_good, places
from homefrees.state import State
from support import random_runs, state_behind

MACHINE = Machine(2, [2, 3], [(0, [("alloc", 0, 0), ("alloc", 1, 1)]), (1, [("drain",)])], pages=4, slots=3)

NOBODY = (
    ("running", 0, "begin", (), ((), ()), (((), ()), ((), ()))),
    ("running", 0, "begin", (), ((), ()), (((), ()), ((), ()))),
)


def state_with(pages=(), slots=(), threads=NOBODY, arrivals=((), ()), flight=()):
    """Return a state of MACHINE; the pages and slots that are not told are in the store, and empty."""
    pages = (*pages, *[("store",)] * (4 - len(pages)))
    slots = (*slots, *[None] * (3 - len(slots)))
    return State(pages, slots, threads, arrivals, flight)


def thread(hand=(), caches=((), ()), batches=(((), ()), ((), ()))):
    return ("running", 0, "begin", hand, caches, batches)


class PlacesTests(unittest.TestCase):
    def test_example(self):
        machine = Machine(1, [2], [(0, [("alloc", 0, 0)])], pages=2)
        last = state_behind(machine, "0 0 0")
        self.assertEqual(places(machine, last), {(0, 0): [("slot", 0)], (0, 1): [("page",)]})
        self.assertIs(is_good(machine, last), True)

    def test_no_small_pages(self):
        self.assertEqual(places(MACHINE, MACHINE.start), {})
        state = state_with([("spare", 0), ("large", 1), ("large", 1)], [("large", 1, 2), ("failure",)])
        self.assertEqual(places(MACHINE, state), {})
        self.assertEqual([is_good(MACHINE, state), is_bad(MACHINE, state)], [True, False])

    def test_each_place(self):
        state = state_with(
            [("small", 0, 1, (2,)), ("small", 1, 0, ()), ("small", 1, 1, ())],
            [None, ("block", 0, 0)],
            (thread(((0, 1),), ((), ((2, 2),))), thread((), ((), ()), (((), ()), (((1, 1),), ())))),
            (((1, 0),), ()),
            ((1, ((2, 0),)), (0, ((2, 1),))),
        )
        found = places(machine=MACHINE, state=state)
        self.assertEqual(found, {
            (0, 0): [("slot", 1)], (0, 1): [("hand", 0)], (0, 2): [("page",)],
            (1, 0): [("arrivals", 0)], (1, 1): [("batch", 1)],
            (2, 0): [("flight", 0)], (2, 1): [("flight", 1)], (2, 2): [("cache", 0)],
        })
        self.assertEqual(list(found), sorted(found))
        self.assertEqual([is_good(MACHINE, state), is_bad(MACHINE, state)], [True, False])

    def test_each_time_that_a_block_is_there(self):
        state = state_with(
            [("small", 0, 0, (0, 1, 0))], [("block", 0, 0), None, ("block", 0, 0)],
            (thread(((0, 0), (0, 0))), thread((), (((0, 0),), ((0, 0),)), ((((0, 0),), ()), ((), ((0, 0),))))),
            (((0, 0),), ((0, 0),)), ((0, ((0, 0), (0, 0))), (1, ((0, 0),))),
        )
        self.assertEqual(places(MACHINE, state), {
            (0, 0): [
                ("arrivals", 0), ("arrivals", 1), ("batch", 1), ("batch", 1), ("cache", 1), ("cache", 1),
                ("flight", 0), ("flight", 0), ("flight", 1), ("hand", 0), ("hand", 0), ("page",), ("page",),
                ("slot", 0), ("slot", 2),
            ],
            (0, 1): [("page",)],
        })

    def test_other_blocks_that_have_a_place(self):
        state = state_with(
            [("small", 0, 0, (5,)), ("store",), ("large", 2)], [("block", 2, 0)], (thread(((1, 0),)), NOBODY[1]),
            ((), ((0, 2),)),
        )
        found = places(MACHINE, state)
        self.assertEqual(found, {
            (0, 0): [], (0, 1): [], (0, 2): [("arrivals", 1)], (0, 5): [("page",)], (1, 0): [("hand", 0)],
            (2, 0): [("slot", 0)],
        })
        self.assertEqual(list(found), [(0, 0), (0, 1), (0, 2), (0, 5), (1, 0), (2, 0)])

    def test_keys_are_in_ascending_order(self):
        machine = Machine(1, [1], [(0, [])], pages=12)
        state = State((("small", 0, 0, (0,)),) * 12, (None, None), machine.start.threads, ((),), ())
        self.assertEqual(list(places(machine, state)), [(page, 0) for page in range(12)])

    def test_returned_dict_and_lists_are_new(self):
        state = state_with([("small", 0, 0, (0, 1))])
        found = places(MACHINE, state)
        found[(0, 0)].append("changed")
        found[(9, 9)] = []
        self.assertEqual(places(MACHINE, state), {(0, 0): [("page",)], (0, 1): [("page",)]})


class GoodAndBadTests(unittest.TestCase):
    def assert_kind(self, state, good, bad):
        self.assertIs(is_good(machine=MACHINE, state=state), good)
        self.assertIs(is_bad(machine=MACHINE, state=state), bad)

    def test_block_in_no_place(self):
        self.assert_kind(state_with([("small", 0, 0, (1,))]), False, True)
        self.assert_kind(state_with([("small", 0, 0, (1,))], [("block", 0, 1)]), False, True)

    def test_block_in_two_slots(self):
        page = ("small", 0, 0, (1,))
        self.assert_kind(state_with([page], [("block", 0, 0), ("block", 0, 0)]), False, True)
        self.assert_kind(state_with([page], [("block", 0, 0)] * 3), False, True)
        self.assert_kind(state_with([page], [("block", 0, 0), None, None]), True, False)

    def test_block_twice_in_the_list_of_its_page(self):
        self.assert_kind(state_with([("small", 0, 0, (1, 0, 1))]), False, True)

    def test_block_in_two_other_places(self):
        page = ("small", 0, 0, (1,))
        self.assert_kind(state_with([page], [("block", 0, 0)], arrivals=(((0, 0),), ())), False, False)
        self.assert_kind(state_with([("small", 0, 0, (0, 1))], [("block", 0, 0)]), False, False)
        self.assert_kind(state_with([page], arrivals=(((0, 0), (0, 0)), ())), False, False)
        self.assert_kind(state_with([page], threads=(thread(((0, 0),), (((0, 0),), ())), NOBODY[1])), False, False)

    def test_blocks_of_no_small_page(self):
        for page in ("store",), ("spare", 0), ("large", 0):
            self.assert_kind(state_with([page], arrivals=(((0, 0),), ())), False, False)
            # In two slots, but no block of a small page.
            self.assert_kind(state_with([page], [("block", 0, 0), ("block", 0, 0)]), False, False)

    def test_numbers_that_the_class_does_not_have(self):
        self.assert_kind(state_with([("small", 0, 0, (0, 1))], arrivals=(((0, 2),), ())), False, False)
        self.assert_kind(state_with([("small", 0, 1, (0, 1))], arrivals=(((0, 2),), ())), True, False)
        self.assert_kind(state_with([("small", 0, 0, (0, 1, 2, 2))]), False, False)

    def test_states_of_runs_without_a_fault_are_good(self):
        for machine, moves in random_runs(21, 10):
            for state, _ in machine.run(moves):
                self.assertTrue(is_good(machine, state))
                self.assertFalse(is_bad(machine, state))

    def test_no_state_is_good_and_bad(self):
        kinds = {}
        for fault in ("take", "fill", "batches"):
            for machine, moves in random_runs(22, 60, fault):
                for state, _ in machine.run(moves):
                    kinds[(is_good(machine, state), is_bad(machine, state))] = True
        self.assertEqual(sorted(kinds), [(False, False), (False, True), (True, False)])


if __name__ == "__main__":
    unittest.main()
