"""homefrees.machine: point [9], the three faults, and blocks that vanish."""

import unittest

from homefrees.machine import Machine
from homefrees.places import is_bad, is_good, places
from support import changed, events_of, moves_of, random_runs, state_behind

STORE = ("store",)


class FaultTest(unittest.TestCase):
    def assert_last(self, machine, text, expected):
        """The last events behind the moves are these; the last state is returned."""
        events = events_of(machine, text)
        self.assertEqual(events[len(events) - len(expected):], expected)
        return state_behind(machine, text)


class TakeTests(FaultTest):
    """Two threads on socket 0 can take the arrivals, which come from thread 1 on socket 1."""

    MACHINE = Machine(2, [4], [
        (0, [("alloc", 0, slot) for slot in range(4)]), (1, [("free", slot) for slot in range(3)]),
        (0, [("drain",), ("drain",)]), (0, [("alloc", 0, 4)]),
    ], slots=5, fault="take")
    # With the fault each alloc with an empty cache needs four steps; blocks 0, 1 and 2 are then sent.
    BEGIN = "0 0 0 0 0 0 0 0 0 0 0 0 0 0 0 0 1 1 1 1 1 1 "

    def test_no_arrivals(self):
        machine = Machine(1, [1], [(0, [("alloc", 0, 0), ("drain",)])], fault="take")
        rows = machine.run(moves_of("0 0 0 0 0 0"))
        self.assertEqual([event for _, event in rows], [
            ("read", 0), ("clear", 0), ("open", 0), ("hit", (0, 0)), ("read", 0), ("clear", 0),
        ])
        self.assertEqual([state.threads[0][:3] for state, _ in rows], [
            ("running", 0, "clear"), ("running", 0, "hand"), ("running", 0, "begin"), ("running", 1, "begin"),
            ("running", 1, "clear"), ("ended", 2, "over"),
        ])

    def test_drain(self):
        text = self.BEGIN + "carry0 carry0 2 2 2 2 2 2"
        rows = self.MACHINE.run(moves_of(text))[-6:]
        self.assertEqual([event for _, event in rows], [
            ("read", 2), ("clear", 2), ("home", (0, 0)), ("home", (0, 1)), ("read", 0), ("clear", 0),
        ])
        both = ((0, 0), (0, 1))
        self.assertEqual([state.arrivals[0] for state, _ in rows], [both, (), (), (), (), ()])
        self.assertEqual([state.threads[2][1:4] for state, _ in rows], [
            (0, "clear", both), (0, "hand", both), (0, "hand", ((0, 1),)), (1, "begin", ()), (1, "clear", ()),
            (2, "over", ()),
        ])
        self.assertEqual([is_good(self.MACHINE, state) for state, _ in rows], [False, True, True, True, True, True])
        self.assertFalse(any(is_bad(self.MACHINE, state) for state, _ in rows))

    def test_alloc(self):
        self.assert_last(self.MACHINE, self.BEGIN + "carry0 3 3 3 3 3", [
            ("carry", 0, 1), ("read", 1), ("clear", 1), ("home", (0, 0)), ("fill", 0), ("hit", (0, 0)),
        ])

    def test_clearing_does_not_wait_though_there_is_no_page(self):
        machine = Machine(2, [1], [
            (0, [("alloc", 0, 0), ("alloc", 0, 1)]), (1, [("free", 0), ("large", 1, 1)]),
        ], pages=1, fault="take")
        text = "0 0 0 0 1 1 1 carry0 0 0 0 0"
        state = self.assert_last(machine, text, [
            ("fail",), ("carry", 0, 1), ("read", 1), ("clear", 1), ("home", (0, 0)), ("open", 0),
        ])
        self.assertEqual(machine.moves(state), [])
        # Also if nothing was read.
        machine = Machine(1, [1], [(0, [("alloc", 0, 0), ("alloc", 0, 0)])], pages=1, fault="take")
        state = self.assert_last(machine, "0 0 0 0 0 0", [("hit", (0, 0)), ("read", 0), ("clear", 0)])
        self.assertEqual(machine.moves(state), [])

    def test_block_that_arrives_between_the_two_steps_is_lost(self):
        text = self.BEGIN + "carry0 2 carry0 2"
        state = self.assert_last(self.MACHINE, text, [("carry", 0, 1), ("read", 1), ("carry", 0, 1), ("clear", 2)])
        self.assertEqual(state.arrivals, ((), ()))
        self.assertEqual(places(self.MACHINE, state)[(0, 1)], [])
        self.assertTrue(is_bad(self.MACHINE, state))

    def test_two_threads_read_the_same_block(self):
        text = self.BEGIN + "carry0 2 3 2 3 2 3"
        state = self.assert_last(self.MACHINE, text, [
            ("read", 1), ("read", 1), ("clear", 1), ("clear", 0), ("home", (0, 0)), ("home", (0, 0)),
        ])
        self.assertEqual(state.pages[0], ("small", 0, 0, (0, 0)))
        self.assertTrue(is_bad(self.MACHINE, state))

    def test_page_is_full_with_each_number_at_least_once(self):
        machine = Machine(2, [2], [
            (0, [("alloc", 0, 0), ("alloc", 0, 1)]), (1, [("free", 0)]), (0, [("drain",)]), (0, [("drain",)]),
            (1, [("free", 1)]), (0, [("drain",)]),
        ], fault="take", spare=1)
        begin = "0 0 0 0 0 0 0 0 1 1 4 4 carry0 2 3 2 3 2 3 "
        state = self.assert_last(machine, begin, [("home", (0, 0)), ("home", (0, 0))])
        self.assertEqual(state.pages[0], ("small", 0, 0, (0, 0)))
        state = self.assert_last(machine, begin + "carry0 5 5 5", [("read", 1), ("clear", 1), ("home", (0, 1))])
        self.assertEqual(state.pages[0], ("spare", 0))

    def test_list_with_a_block_twice_is_filled_from_in_its_order(self):
        text = self.BEGIN + "carry0 2 3 2 3 2 3 "
        state = state_behind(self.MACHINE, text)
        self.assertEqual(state.pages[0][3], (0, 0))
        state = self.assert_last(self.MACHINE, text + "3", [("fill", 0)])
        self.assertEqual([state.pages[0][3], state.threads[3][4]], [(0,), (((0, 0),),)])

    def test_block_that_is_brought_home_to_a_page_that_is_gone_vanishes(self):
        machine = Machine(2, [1], [
            (0, [("alloc", 0, 0)]), (1, [("free", 0)]), (0, [("drain",)]), (0, [("drain",)]),
        ], fault="take")
        text = "0 0 0 0 1 1 carry0 2 3 2 3 2 "
        state = self.assert_last(machine, text, [("clear", 1), ("clear", 0), ("home", (0, 0))])
        self.assertEqual([state.pages[0], state.threads[3][3]], [STORE, ((0, 0),)])
        self.assertEqual(places(machine, state), {(0, 0): [("hand", 3)]})
        state = self.assert_last(machine, text + "3", [("vanish", (0, 0))])
        self.assertEqual(state.threads[3], ("ended", 1, "over", (), ((),), (((),), ((),))))
        self.assertEqual([state.pages[0], places(machine, state)], [STORE, {}])

    def test_vanishing_counts_as_one_in_a_sweep_and_in_a_recovery(self):
        machine = Machine(2, [1], [
            (0, [("alloc", 0, 0)]), (1, [("free", 0)]), (0, [("drain",)]), (0, [("drain",)]),
        ], fault="take", stops=1)
        text = "0 0 0 0 1 1 carry0 2 3 2 2 stop3 "
        self.assertEqual(state_behind(machine, text).pages[0], STORE)
        state = self.assert_last(machine, text + "recover3", [("stop", 3), ("recover", 1)])
        self.assertEqual([state.arrivals, state.threads[3][0]], [((), ()), "recovered"])
        # The copy in the hand goes to the arrivals while the page is there, and is swept when it is gone.
        text = "0 0 0 0 1 1 carry0 2 3 2 stop3 recover3 "
        self.assertEqual(state_behind(machine, text).arrivals, (((0, 0),), ()))
        state = self.assert_last(machine, text + "2 sweep0", [("recover", 1), ("home", (0, 0)), ("sweep", 1)])
        self.assertEqual([state.arrivals, state.pages[0]], [((), ()), STORE])


class FillTests(FaultTest):
    MACHINE = Machine(1, [4], [
        (0, [("alloc", 0, 0), ("alloc", 0, 1), ("alloc", 0, 2)]), (0, [("alloc", 0, 3)]),
    ], batch=2, slots=4, fault="fill")

    def test_opening_is_one_step(self):
        self.assert_last(self.MACHINE, "0 0 0", [("take", 0), ("open", 0), ("hit", (0, 1))])

    def test_filling_needs_two_steps(self):
        rows = self.MACHINE.run(moves_of("0 0 0 0 0 0 0 0"))[4:]
        self.assertEqual([event for _, event in rows], [("take", 0), ("look", 0), ("fill", 0), ("hit", (0, 3))])
        both = ((0, 2), (0, 3))
        self.assertEqual([state.threads[0][1:5] for state, _ in rows], [
            (2, "hand", (), ((),)), (2, "get", both, ((),)), (2, "begin", (), (both,)),
            (3, "flush", (), (((0, 2),),)),
        ])
        self.assertEqual([state.pages[0][3] for state, _ in rows], [(2, 3), (2, 3), (), ()])

    def test_two_threads_get_the_same_blocks(self):
        text = "0 0 0 0 0 1 0 1 0 1 0 1"
        state = self.assert_last(self.MACHINE, text, [
            ("look", 0), ("look", 0), ("fill", 0), ("fill", 0), ("hit", (0, 3)), ("hit", (0, 3)),
        ])
        self.assertEqual(state.slots[2:], (("block", 0, 3), ("block", 0, 3)))
        self.assertEqual(places(self.MACHINE, state)[(0, 3)], [("slot", 2), ("slot", 3)])
        self.assertTrue(is_bad(self.MACHINE, state))

    def test_only_blocks_that_are_still_in_the_list_are_removed(self):
        machine = changed(self.MACHINE, classes=[5], threads=[
            (0, [("alloc", 0, 0), ("alloc", 0, 1)]), (0, [("alloc", 0, 2)]), (0, [("alloc", 0, 3)]),
        ])
        state = self.assert_last(machine, "0 0 0 0 1 2 1 2 1 2", [("look", 0), ("look", 0), ("fill", 0), ("fill", 0)])
        self.assertEqual(state.pages[0][3], (4,))

    def test_looking_does_not_wait(self):
        machine = changed(self.MACHINE, threads=[(0, [("alloc", 0, 0), ("alloc", 0, 0)])], batch=1)
        state = self.assert_last(machine, "0 0 0 0 0 0", [("take", 0), ("look", 0), ("fill", 0)])
        self.assertEqual(machine.moves(state), [])

    def test_getting_does_not_wait_though_there_is_no_page(self):
        machine = Machine(1, [2], [
            (0, [("alloc", 0, 0), ("alloc", 0, 1)]), (0, [("alloc", 0, 2), ("large", 1, 1)]),
        ], pages=1, slots=3, fault="fill")
        text = "0 0 0 0 0 1 1 1 1 1 0"
        state = self.assert_last(machine, text, [("fill", 0), ("hit", (0, 1)), ("fail",), ("fill", 0)])
        self.assertEqual(state.threads[0], ("running", 1, "begin", (), (((0, 1),),), (((),),)))
        self.assertEqual(machine.moves(state), [])

    def test_stopped_between_the_two_steps(self):
        machine = changed(self.MACHINE, stops=1)
        text = "0 0 0 0 0 0 stop0 "
        self.assertEqual(state_behind(machine, text).threads[0][3:5], (((0, 2), (0, 3)), ((),)))
        state = self.assert_last(machine, text + "recover0", [("look", 0), ("stop", 0), ("recover", 2)])
        self.assertEqual(state.arrivals, (((0, 2), (0, 3)),))

    def closing(self, *more, **parameters):
        """Return a machine in which thread 1 can look at page 0 before thread 0 gives it to the store."""
        return Machine(**{
            "sockets": 2, "classes": [2, 1], "slots": 3, "fault": "fill",
            "threads": [(0, [("alloc", 0, 0), ("free", 0)]), (0, [("alloc", 0, 1), *more])], **parameters,
        })

    def test_page_that_is_gone_is_not_changed(self):
        machine = self.closing(("drain",))
        state = self.assert_last(machine, "0 0 0 1 1 0 0", [("look", 0), ("keep", (0, 0)), ("home", (0, 0))])
        self.assertEqual(state.pages[0], STORE)
        state = self.assert_last(machine, "0 0 0 1 1 0 0 1 1", [("fill", 0), ("hit", (0, 1))])
        self.assertEqual([state.pages[0], state.slots[1]], [STORE, ("block", 0, 1)])
        self.assertEqual(places(machine, state), {(0, 1): [("slot", 1)]})
        self.assertEqual([is_good(machine, state), is_bad(machine, state)], [False, False])

    def test_freed_block_vanishes(self):
        machine = self.closing(("free", 1), ("drain",))
        state = self.assert_last(machine, "0 0 0 1 1 0 0 1 1 1", [("hit", (0, 1)), ("vanish", (0, 1))])
        self.assertEqual(state.slots[1], None)
        self.assertEqual(state.threads[1], ("running", 2, "begin", (), ((), ()), (((), ()), ((), ()))))

    def test_adoption_of_a_page_that_is_gone_is_nothing(self):
        machine = self.closing(("adopt", 1))
        state = self.assert_last(machine, "0 0 0 1 1 0 0 1 1 1", [("hit", (0, 1)), ("nothing",)])
        self.assertEqual([state.pages[0], state.slots[1]], [STORE, ("block", 0, 1)])

    def test_cached_block_vanishes_at_the_end(self):
        machine = self.closing(classes=[4, 1], batch=2, threads=[
            (0, [("alloc", 0, 0), ("free", 0)]), (0, [("alloc", 0, 1)]),
        ])
        text = "0 0 0 1 1 0 0 0 1 1 "
        state = self.assert_last(machine, text, [
            ("look", 0), ("keep", (0, 1)), ("home", (0, 0)), ("home", (0, 1)), ("fill", 0), ("hit", (0, 3)),
        ])
        self.assertEqual(state.pages[0], STORE)
        self.assert_last(machine, text + "1", [("vanish", (0, 2))])

    def test_page_that_was_opened_again(self):
        # Page 0 is opened again by thread 2, for class 1 and socket 1, before thread 1 gets its block.
        machine = self.closing(("free", 1), ("drain",), threads=[
            (0, [("alloc", 0, 0), ("free", 0)]), (0, [("alloc", 0, 1), ("free", 1), ("drain",)]),
            (1, [("alloc", 1, 2)]),
        ], classes=[2, 3])
        text = "0 0 0 1 1 0 0 2 2 "
        state = self.assert_last(machine, text, [("home", (0, 0)), ("take", 0), ("open", 0)])
        self.assertEqual(state.pages[0], ("small", 1, 1, (1, 2)))
        state = self.assert_last(machine, text + "1 1", [("fill", 0), ("hit", (0, 1))])
        # Block 1 of the new page is removed from its list.
        self.assertEqual(state.pages[0], ("small", 1, 1, (2,)))
        state = self.assert_last(machine, text + "1 1 1 1", [("batch", (0, 1)), ("send", 1, 1)])
        self.assertEqual(state.flight, ((1, ((0, 1),)),))

    def test_block_whose_number_the_new_page_does_not_have(self):
        machine = self.closing(threads=[
            (0, [("alloc", 0, 0), ("free", 0)]), (0, [("alloc", 0, 1), ("free", 1), ("drain",)]),
            (0, [("alloc", 1, 2)]),
        ])
        text = "0 0 0 1 1 0 0 2 2 1 1 "
        state = state_behind(machine, text)
        self.assertEqual([state.pages[0], state.slots[1]], [("small", 0, 1, ()), ("block", 0, 1)])
        self.assertFalse(is_good(machine, state))
        # It goes to the cache of the class that its page has now, and at the end to the list.
        state = self.assert_last(machine, text + "1", [("keep", (0, 1))])
        self.assertEqual(state.threads[1][4], ((), ((0, 1),)))
        state = self.assert_last(machine, text + "1 1 1", [("keep", (0, 1)), ("take", 0), ("home", (0, 1))])
        self.assertEqual(state.pages[0], ("small", 0, 1, (1,)))
        self.assertFalse(is_good(machine, state))


class BatchesTests(FaultTest):
    MACHINE = Machine(2, [3], [
        (0, [("alloc", 0, 0), ("alloc", 0, 1)]), (1, [("free", 0), ("free", 1), ("drain",)]),
    ], batch=3, fault="batches")

    def test_batches_are_dropped_at_the_end(self):
        text = "0 0 0 0 1 1 1 1"
        state = self.assert_last(self.MACHINE, text, [
            ("batch", (0, 2)), ("batch", (0, 1)), ("take", 0), ("drop", 0, 2),
        ])
        self.assertEqual(state.threads[1], ("ended", 3, "over", (), ((),), (((),), ((),))))
        self.assertEqual(state.flight, ())
        self.assertEqual(places(self.MACHINE, state)[(0, 1)], [])
        self.assertTrue(is_bad(self.MACHINE, state))

    def test_full_batches_are_sent(self):
        machine = changed(self.MACHINE, batch=2)
        self.assert_last(machine, "0 0 0 0 1 1 1 1", [
            ("batch", (0, 1)), ("batch", (0, 0)), ("send", 0, 2), ("take", 0),
        ])

    def test_each_batch_is_dropped_in_its_own_step(self):
        machine = Machine(3, [1], [
            (0, [("alloc", 0, 0)]), (2, [("alloc", 0, 1)]), (1, [("free", 1), ("free", 0)]),
        ], batch=2, fault="batches")
        self.assert_last(machine, "0 0 0 1 1 1 2 2 2 2", [
            ("batch", (1, 0)), ("batch", (0, 0)), ("drop", 0, 1), ("drop", 2, 1),
        ])


class OtherwiseTests(FaultTest):
    """A machine with a fault differs in one thing only."""

    WORDS = {"take": ("read", "clear"), "fill": ("look",), "batches": ("drop",)}

    def test_runs_without_the_faulty_step_are_the_same(self):
        played = 0
        for fault, words in self.WORDS.items():
            for machine, moves in random_runs(11, 40, fault):
                rows = machine.run(moves)
                many = 0
                while many < len(rows) and rows[many][1][0] not in words:
                    many += 1
                other = changed(machine, fault=None)
                self.assertEqual(other.run(moves[:many]), rows[:many])
                played += many
        self.assertGreater(played, 500)

    def test_events_of_faults_occur_with_them_only(self):
        found = {}
        for fault in (None, "take", "fill", "batches"):
            for machine, moves in random_runs(12, 200, fault):
                for _, event in machine.run(moves):
                    found.setdefault(event[0], {})[fault] = True
        self.assertEqual(list(found["read"]), ["take"])
        self.assertEqual(list(found["clear"]), ["take"])
        self.assertEqual(list(found["look"]), ["fill"])
        self.assertEqual(list(found["drop"]), ["batches"])
        self.assertNotIn("take", found["take"])
        self.assertNotIn(None, found.get("vanish", {}))
        for word in ("hit", "home", "open", "fill", "fail", "keep", "batch", "nothing", "return", "adopt", "large",
                     "grow", "send", "stop", "carry", "recover", "sweep"):
            self.assertIn(None, found[word])

    def test_every_run_ends(self):
        for fault in ("take", "fill", "batches"):
            for machine, moves in random_runs(13, 30, fault):
                self.assertEqual(machine.moves(machine.after(moves)), [])


if __name__ == "__main__":
    unittest.main()
