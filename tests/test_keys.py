"""homefrees.keys: point [15], valid keys, states with such keys, and closed lists of them."""

import random
import unittest

from homefrees.errors import InvalidState
from homefrees.keys import check_closed, is_key, state_of
from homefrees.machine import Machine
from homefrees.search import Search
from homefrees.state import State
from support import (
    OTHERS, STRINGS, KeyMaker, changed, part_at, paths_of, random_keys, random_runs, replaced_at, state_behind,
    tiny_searches, values_of_other_kinds,
)

LINE = Machine(1, [2], [(0, [("alloc", 0, 0)])], pages=2)
LINE_KEYS = [state.key for state in Search(LINE).states()]

# A key with something of each kind, which no run reaches.
FULL = Machine(2, [2, 3], [
    (0, [("alloc", 1, 0), ("free", 1)]),
    (1, [("free", 0), ("drain",)]),
    (0, [("drain",)]),
    (1, []),
    (1, [("free", 1)]),
    (0, [("adopt", 0)]),
], pages=8, batch=2, spare=1, slots=4, stops=2)
NONE = ((), ())
NO_BATCHES = (NONE, NONE)
KEY = (
    (
        ("small", 0, 0, (1,)), ("small", 1, 1, (2,)), ("small", 0, 1, ()), ("spare", 1),
        ("large", 4), ("large", 4), ("store",), ("small", 1, 1, (2, 0)),
    ),
    (("block", 0, 0), None, ("large", 4, 2), ("failure",)),
    (
        ("running", 0, "hand", (), NONE, NO_BATCHES),
        ("running", 1, "begin", (), ((), ((1, 0),)), (((), ((2, 0),)), NONE)),
        ("running", 0, "hand", ((2, 1),), NONE, NO_BATCHES),
        ("ended", 0, "over", (), NONE, NO_BATCHES),
        ("stopped", 1, "over", ((7, 1),), NONE, NO_BATCHES),
        ("recovered", 0, "over", (), NONE, NO_BATCHES),
    ),
    (((1, 1),), ()),
    ((1, ((2, 2),)),),
)
PAGES, SLOTS, THREADS, ARRIVALS, FLIGHT = range(5)
STATUS, AT, PHASE, HAND, CACHES, BATCHES = range(6)


class KeyTestCase(unittest.TestCase):
    def assert_key(self, machine, key, expected=True):
        with self.subTest(key=key):
            self.assertIs(is_key(machine, key), expected)

    def check(self, path, part, expected, machine=FULL, key=KEY):
        """With this part in the place of another one, the key is valid, or not."""
        self.assert_key(machine, replaced_at(key, path, part), expected)

    def check_all(self, changes, expected, machine=FULL, key=KEY):
        for path, part in changes:
            key = replaced_at(key, path, part)
        self.assert_key(machine, key, expected)


class FormTests(KeyTestCase):
    def test_example(self):
        found = [
            is_key(LINE, LINE_KEYS[1]), check_closed(LINE, LINE_KEYS), check_closed(LINE, LINE_KEYS[:2]),
            is_key(LINE, LINE_KEYS[0][:4] + (((0, ()),),)),
        ]
        self.assertEqual(found, [True, True, False, False])

    def test_keys_with_something_of_each_kind(self):
        self.assert_key(FULL, KEY)
        self.assert_key(FULL, FULL.start.key)

    def test_reachable_states(self):
        for machine, moves in random_runs(21, 60):
            self.assertTrue(is_key(machine, machine.start.key))
            for state, _ in machine.run(moves):
                self.assertTrue(is_key(machine, state.key))

    def test_machines_with_a_fault(self):
        for fault in ("take", "fill", "batches"):
            machine = changed(LINE, fault=fault)
            for value in (machine.start.key, *LINE_KEYS, None):
                self.assertIs(is_key(machine, value), False)

    def test_values_that_are_no_tuples_of_five(self):
        for value in OTHERS + STRINGS + [0, [], (), KEY[:4], (*KEY, ()), list(KEY), (KEY,), [KEY], KEY[0], FULL.start]:
            self.assert_key(FULL, value, False)

    def test_parts_of_other_kinds_at_every_depth(self):
        for path in paths_of(KEY):
            part = part_at(KEY, path)
            for other in values_of_other_kinds(part):
                # An empty slot is one in the place of a failure.
                if other is None and part == ("failure",):
                    continue
                self.check(path, other, False)

    def test_other_words(self):
        # A page of the store, and an empty slot, have no block that would be lost.
        self.check((PAGES, 6), ("store",), True)
        for word in ("store", "spare", "large", "", "Small", "word"):
            self.check((PAGES, 6), (word, 0, 0, ()), False)
            self.check((PAGES, 6), (word, 0, 0), False)
        for word in ("store", "small", "", "Spare", "word"):
            self.check((PAGES, 6), (word, 0), False)
        for word in ("", "Store", "small", "spare", "large", "free"):
            self.check((PAGES, 6), (word,), False)
        for word in ("failure", "", "Large", "Block", "word", "small"):
            self.check((SLOTS, 1), (word, 0, 1), False)
            self.check((SLOTS, 1), (word, 6, 1), False)
        for word in ("", "Failure", "block", "large", "word"):
            self.check((SLOTS, 1), (word,), False)

    def test_items_too_many_or_too_few(self):
        for path in paths_of(KEY):
            part = part_at(KEY, path)
            if isinstance(part, tuple) and part:
                self.check(path, part[:-1], False)
                self.check(path, (*part, part[-1]), False)
                self.check(path, (*part, None), False)
            elif isinstance(part, tuple):
                self.check(path, (None,), False)
                self.check(path, ((),), False)
                self.check(path, (0,), False)

    def test_true_and_false_are_no_integers(self):
        for path in paths_of(KEY):
            part = part_at(KEY, path)
            if part in (0, 1) and isinstance(part, int):
                self.check(path, bool(part), False)

    def test_the_arguments_are_not_modified(self):
        value = [list(part) for part in KEY]
        self.assertFalse(is_key(FULL, value))
        self.assertEqual(value, [list(part) for part in KEY])

    def test_keys_of_other_machines(self):
        for parameters in ({"pages": 7}, {"pages": 9}, {"slots": 3}, {"slots": 5}, {"stops": 1}, {"spare": 0}):
            self.assert_key(changed(FULL, **parameters), KEY, False)
        self.assert_key(changed(FULL, stops=3, spare=2, batch=3), KEY)
        # The thread in the middle of its program has ended in the other one.
        self.assert_key(LINE, LINE_KEYS[0])
        self.assert_key(changed(LINE, threads=[(0, [])]), LINE_KEYS[0], False)
        self.assert_key(changed(LINE, sockets=2), LINE_KEYS[0], False)
        self.assert_key(changed(LINE, classes=[2, 2]), LINE_KEYS[0], False)


class NumberTests(KeyTestCase):
    def test_homes_and_sockets(self):
        self.check((PAGES, 0, 1), 1, True)
        self.check((PAGES, 0, 1), 2, False)
        self.check((PAGES, 3, 1), 0, True)
        self.check((PAGES, 3, 1), 2, False)
        self.check((FLIGHT, 0, 0), 0, True)
        self.check((FLIGHT, 0, 0), 2, False)

    def test_classes(self):
        self.check((PAGES, 7, 2), 2, False)
        # With two blocks, the number 2 is none.
        self.check((PAGES, 7, 2), 0, False)

    def test_pages(self):
        self.check((SLOTS, 0, 1), 8, False)
        self.check((SLOTS, 0, 1), -1, False)
        self.check((ARRIVALS, 0, 0, 0), 8, False)
        self.check((PAGES, 4, 1), 8, False)
        self.check((PAGES, 4, 1), 5, False)
        self.check((SLOTS, 2, 1), 8, False)

    def test_numbers_of_blocks(self):
        self.check((PAGES, 0, 3), (2,), False)
        self.check((PAGES, 0, 3), (-1,), False)
        self.check((SLOTS, 0, 2), 2, False)
        self.check((ARRIVALS, 0, 0, 1), 3, False)
        self.check((PAGES, 1, 3), (3,), False)

    def test_indexes_of_operations(self):
        self.check((THREADS, 5, AT), 1, True)
        self.check((THREADS, 5, AT), 2, False)
        self.check((THREADS, 5, AT), -1, False)
        self.check((THREADS, 4, AT), 2, False)
        self.check((THREADS, 0, AT), 3, False)
        self.check((THREADS, 3, AT), 1, False)


class PlaceTests(KeyTestCase):
    def test_a_block_in_no_place(self):
        for path, part in (
            ((SLOTS, 0), None), ((PAGES, 0, 3), ()), ((ARRIVALS, 0), ()), ((FLIGHT,), ()), ((THREADS, 4, HAND), ()),
            ((THREADS, 1, CACHES, 1), ()), ((THREADS, 1, BATCHES, 0, 1), ()),
        ):
            self.check(path, part, False)

    def test_a_block_in_two_places(self):
        for path, part in (
            ((SLOTS, 1), ("block", 0, 0)), ((SLOTS, 1), ("block", 1, 0)), ((PAGES, 1, 3), (2, 2)),
            ((PAGES, 2, 3), (0,)), ((ARRIVALS, 0), ((1, 1), (1, 1))), ((ARRIVALS, 1), ((1, 1),)),
            ((FLIGHT, 0, 1), ((2, 2), (2, 2))), ((FLIGHT,), KEY[FLIGHT] * 2), ((THREADS, 4, HAND), ((7, 1), (2, 1))),
            ((THREADS, 1, CACHES, 1), ((1, 0), (1, 0))),
        ):
            self.check(path, part, False)

    def test_blocks_of_pages_that_are_not_small(self):
        for page in (3, 4, 6):
            self.check((SLOTS, 1), ("block", page, 0), False)
            self.check((ARRIVALS, 1), ((page, 0),), False)
            self.check((THREADS, 4, HAND), ((7, 1), (page, 0)), False)

    def test_a_block_may_be_anywhere(self):
        taken = replaced_at(KEY, (SLOTS, 0), None)
        for path, part in (
            ((PAGES, 0, 3), (1, 0)), ((SLOTS, 1), ("block", 0, 0)), ((ARRIVALS, 1), ((0, 0),)),
            ((ARRIVALS, 0), ((0, 0), (1, 1))), ((THREADS, 4, HAND), ((7, 1), (0, 0))),
            ((THREADS, 2, HAND), ((0, 0), (2, 1))), ((THREADS, 0, HAND), ((0, 0),)),
            ((THREADS, 1, CACHES, 0), ((0, 0),)), ((THREADS, 1, BATCHES, 1, 0), ((0, 0),)),
            ((THREADS, 4, BATCHES, 0, 0), ((0, 0),)), ((FLIGHT,), ((0, ((0, 0),)), *KEY[FLIGHT])),
        ):
            # With both blocks in its list, the page would be a spare one, or in the store.
            self.check(path, part, path != (PAGES, 0, 3), key=taken)

    def test_the_order_of_a_list(self):
        self.check((PAGES, 7, 3), (0, 2), True)


class PageTests(KeyTestCase):
    def test_a_list_with_all_blocks(self):
        machine = Machine(1, [1], [(0, [("drain",)])], pages=1)
        start = machine.start.key
        self.assert_key(machine, start)
        self.check((PAGES, 0), ("small", 0, 0, (0,)), False, machine, start)
        self.check((PAGES, 0), ("small", 0, 0, ()), False, machine, start)
        self.check_all([((PAGES, 0), ("small", 0, 0, ())), ((SLOTS, 0), ("block", 0, 0))], True, machine, start)
        self.check_all([
            ((PAGES, 7, 3), (2, 0, 1)), ((THREADS, 4, HAND), ()),
        ], False)
        self.check_all([((PAGES, 7), ("store",)), ((THREADS, 4, HAND), ())], True)

    def test_spare_pages(self):
        self.check((PAGES, 6), ("spare", 1), False)
        self.check((PAGES, 6), ("spare", 0), True)
        self.check((PAGES, 3), ("store",), True)
        self.check((PAGES, 6), ("spare", 1), True, changed(FULL, spare=2))
        self.assert_key(changed(FULL, spare=0), KEY, False)

    def test_pages_of_large_blocks(self):
        for page in (4, 5):
            self.check((PAGES, page), ("store",), False)
            self.check((PAGES, page), ("spare", 0), False)
            self.check((PAGES, page), ("large", page + 1), False)
        self.check((PAGES, 6), ("large", 4), False)
        self.check((PAGES, 6), ("large", 6), False)
        self.check((SLOTS, 2), None, False)
        self.check((SLOTS, 2), ("large", 4, 1), False)
        self.check((SLOTS, 2), ("large", 4, 3), False)
        self.check((SLOTS, 2), ("large", 5, 1), False)
        self.check((SLOTS, 2), ("large", 5, 2), False)
        self.check_all([((SLOTS, 2), ("large", 4, 3)), ((PAGES, 6), ("large", 4))], True)
        self.check_all([((SLOTS, 2), None), ((PAGES, 4), ("store",)), ((PAGES, 5), ("store",))], True)

    def test_large_blocks_do_not_share_pages(self):
        self.check((SLOTS, 3), ("large", 4, 2), False)
        self.check((SLOTS, 3), ("large", 4, 1), False)
        self.check((SLOTS, 3), ("large", 5, 1), False)
        self.check_all([((SLOTS, 2), ("large", 4, 1)), ((SLOTS, 3), ("large", 5, 1))], False)
        self.check_all([
            ((SLOTS, 2), ("large", 4, 1)), ((SLOTS, 3), ("large", 5, 1)), ((PAGES, 5), ("large", 5)),
        ], True)

    def test_lengths_of_large_blocks(self):
        machine = Machine(1, [1], [(0, [])], pages=12, slots=1)
        for many in range(1, 13):
            pages = (("large", 0),) * many + (("store",),) * (12 - many)
            self.check_all([((PAGES,), pages), ((SLOTS, 0), ("large", 0, many))], True, machine, machine.start.key)
        self.check((SLOTS, 0), ("large", 0, 0), False, machine, machine.start.key)
        self.check((SLOTS, 0), ("large", 0, -1), False, machine, machine.start.key)
        pages = (("large", 0),) * 12
        self.check_all([((PAGES,), pages), ((SLOTS, 0), ("large", 0, 13))], False, machine, machine.start.key)
        # No page is at the end of it.
        pages = (("store",),) * 11 + (("large", 11),)
        self.check_all([((PAGES,), pages), ((SLOTS, 0), ("large", 11, 1))], True, machine, machine.start.key)
        self.check_all([((PAGES,), pages), ((SLOTS, 0), ("large", 11, 2))], False, machine, machine.start.key)


class StockTests(KeyTestCase):
    """The caches, the batches and the messages."""

    def test_classes_of_caches_and_batches(self):
        self.check_all([((THREADS, 1, CACHES), (((1, 0),), ()))], False)
        self.check_all([((THREADS, 1, BATCHES, 0), (((2, 0),), ()))], False)
        # The home of a page can be another one than that of the batch, and the own one.
        self.check_all([((THREADS, 1, BATCHES), (NONE, ((), ((2, 0),))))], True)
        self.check_all([((PAGES, 2, 1), 1)], True)
        # A stopped thread has them too.
        self.check_all([((THREADS, 4, HAND), ()), ((THREADS, 4, CACHES), ((), ((7, 1),)))], True)
        self.check_all([((THREADS, 4, HAND), ()), ((THREADS, 4, CACHES), (((7, 1),), ()))], False)

    def test_lengths_of_caches(self):
        two = [((THREADS, 1, CACHES, 1), ((1, 0), (1, 1))), ((ARRIVALS, 0), ())]
        self.check_all(two, True)
        three = [((THREADS, 1, CACHES, 1), ((1, 0), (1, 1), (2, 2))), ((ARRIVALS, 0), ()), ((FLIGHT,), ())]
        self.check_all(three, False)
        self.check_all(three, True, changed(FULL, batch=3))
        stopped = [((THREADS, 4, HAND), ()), ((ARRIVALS, 0), ()), ((FLIGHT,), ())]
        self.check_all([*stopped, ((THREADS, 4, CACHES, 1), ((7, 1), (1, 1), (2, 2)))], False)

    def test_lengths_of_batches(self):
        two = [((THREADS, 1, BATCHES, 0, 1), ((2, 0), (1, 1))), ((ARRIVALS, 0), ())]
        self.check_all(two, False)
        self.check_all(two, True, changed(FULL, batch=3))
        self.check_all([*two, ((THREADS, 1, AT), 0), ((THREADS, 1, PHASE), "send")], True)
        stopped = [((THREADS, 4, HAND), ()), ((THREADS, 4, BATCHES, 0, 1), ((7, 1), (1, 1))), ((ARRIVALS, 0), ())]
        self.check_all(stopped, True)
        three = [*stopped, ((THREADS, 4, BATCHES, 0, 1), ((7, 1), (1, 1), (2, 2))), ((FLIGHT,), ())]
        self.check_all(three, False)

    def test_messages_are_not_empty(self):
        self.check((FLIGHT,), (*KEY[FLIGHT], (0, ())), False)
        self.check((FLIGHT,), ((0, ()), *KEY[FLIGHT]), False)

    def test_order_of_messages(self):
        messages = ((1, ((2, 2),)), (0, ((1, 1),)))
        self.check_all([((ARRIVALS, 0), ()), ((FLIGHT,), messages)], True)
        self.check_all([((ARRIVALS, 0), ()), ((FLIGHT,), messages[::-1])], True)
        self.check_all([((ARRIVALS, 0), ()), ((FLIGHT,), ((1, ((2, 2), (1, 1))),))], True)


class PhaseTests(KeyTestCase):
    def row(self, number, status, at, phase, hand=None):
        """Return the changes that give the thread these, and perhaps another hand."""
        changes = [((THREADS, number, STATUS), status), ((THREADS, number, AT), at), ((THREADS, number, PHASE), phase)]
        return changes if hand is None else [*changes, ((THREADS, number, HAND), hand)]

    def test_begin(self):
        for number, at in ((0, 0), (0, 1), (1, 0), (1, 1)):
            self.check_all(self.row(number, "running", at, "begin"), True)
        self.check_all(self.row(2, "running", 0, "begin"), False)
        taken = [((ARRIVALS, 1), ((2, 1),))]
        self.check_all([*taken, *self.row(2, "running", 0, "begin", ())], True)
        self.check_all(self.row(0, "running", 2, "begin"), False)

    def test_hand_in_an_alloc(self):
        self.check_all(self.row(0, "running", 0, "hand"), True)
        self.check_all([((ARRIVALS, 0), ()), *self.row(0, "running", 0, "hand", ((1, 1),))], True)
        taken = [((ARRIVALS, 0), ())]
        self.check_all([*taken, ((THREADS, 0, CACHES, 1), ((1, 1),))], False)
        self.check_all([*taken, ((THREADS, 0, CACHES, 1), ((1, 1),)), *self.row(0, "running", 0, "begin")], True)
        # A cache of another class need not be empty.
        self.check_all([((SLOTS, 0), None), ((THREADS, 0, CACHES, 0), ((0, 0),))], True)

    def test_hand_in_a_drain(self):
        self.check_all(self.row(2, "running", 0, "hand"), True)
        self.check_all([((ARRIVALS, 1), ((2, 1),)), *self.row(2, "running", 0, "hand", ())], False)
        # The cache need not be empty.
        self.check_all([((ARRIVALS, 0), ()), *self.row(1, "running", 1, "hand", ((1, 1),))], True)

    def test_hand_in_other_operations(self):
        for hand in ((), ((1, 1),)):
            taken = [((ARRIVALS, 0), ())] if hand else []
            self.check_all([*taken, *self.row(0, "running", 1, "hand", hand)], False)
            self.check_all([*taken, *self.row(5, "running", 0, "hand", hand)], False)
            self.check_all([*taken, *self.row(0, "running", 2, "hand", hand)], False)

    def test_send(self):
        full = [((THREADS, 1, BATCHES, 0, 1), ((2, 0), (1, 1))), ((ARRIVALS, 0), ())]
        self.check_all([*full, *self.row(1, "running", 0, "send")], True)
        self.check_all([*full, *self.row(1, "running", 1, "send")], False)
        self.check_all([*full, *self.row(1, "running", 2, "send")], False)
        self.check_all([*full, *self.row(1, "running", 0, "begin")], False)
        # Without a full batch, with two of them, with a hand.
        self.check_all(self.row(1, "running", 0, "send"), False)
        taken = [((SLOTS, 0), None), ((PAGES, 0, 3), ())]
        both = [*full, *taken, ((THREADS, 1, BATCHES, 1, 0), ((0, 0), (0, 1)))]
        self.check_all([*both, *self.row(1, "running", 0, "send")], False)
        one = [*full, ((SLOTS, 0), None), ((THREADS, 1, BATCHES, 1, 0), ((0, 0),))]
        self.check_all([*one, *self.row(1, "running", 0, "send")], True)
        hand = [*full, ((SLOTS, 0), None)]
        self.check_all([*hand, *self.row(1, "running", 0, "send", ((0, 0),))], False)
        # One batch that is as full as another one may be does not do.
        self.check_all([*full, *self.row(1, "running", 0, "send")], False, changed(FULL, batch=3))

    def test_batch_of_one(self):
        machine = Machine(2, [1], [(0, [("free", 0), ("free", 0)])], pages=1)
        key = replaced_at(machine.start.key, (PAGES, 0), ("small", 1, 0, ()))
        batch = ((THREADS, 0, BATCHES, 1, 0), ((0, 0),))
        self.check_all([batch], False, machine, key)
        self.check_all([batch, *self.row(0, "running", 0, "send")], True, machine, key)
        self.check_all([batch, *self.row(0, "running", 1, "send")], True, machine, key)
        self.check_all([batch, *self.row(0, "running", 2, "flush")], False, machine, key)
        cache = ((THREADS, 0, CACHES, 0), ((0, 0),))
        self.check_all([cache], True, machine, key)
        self.check_all([cache, *self.row(0, "running", 2, "flush")], True, machine, key)
        self.check_all([cache, *self.row(0, "running", 0, "send")], False, machine, key)

    def test_flush(self):
        self.check_all(self.row(1, "running", 2, "flush"), True)
        self.check_all(self.row(1, "running", 1, "flush"), False)
        self.check_all(self.row(0, "running", 2, "flush"), False)
        self.check_all([((ARRIVALS, 0), ((1, 0), (1, 1))), ((THREADS, 1, CACHES, 1), ()),
                        *self.row(1, "running", 2, "flush")], True)
        self.check_all([((ARRIVALS, 0), ((2, 0), (1, 1))), ((THREADS, 1, BATCHES, 0, 1), ()),
                        *self.row(1, "running", 2, "flush")], True)
        self.check_all([((ARRIVALS, 0), ()), *self.row(1, "running", 2, "flush", ((1, 1),))], False)
        self.check_all([((ARRIVALS, 0), ()), *self.row(0, "running", 2, "flush", ((1, 1),))], False)
        # A thread without operations can have been given blocks as well.
        self.check_all([((ARRIVALS, 0), ()), ((THREADS, 3, CACHES, 1), ((1, 1),)),
                        *self.row(3, "running", 0, "flush")], True)

    def test_over(self):
        for number, at in ((0, 0), (0, 2), (3, 0)):
            self.check_all(self.row(number, "running", at, "over"), False)
        for phase in ("begin", "hand", "send", "flush", "clear", "get", "", "OVER"):
            for number in (3, 4, 5):
                self.check((THREADS, number, PHASE), phase, False)

    def test_other_phases_of_running_threads(self):
        # In an alloc, a free, a drain, a free, an adopt, and at the end of a program.
        for number, at in ((0, 0), (0, 1), (1, 0), (1, 1), (5, 0), (1, 2)):
            for phase in ("over", "clear", "get", "", "BEGIN", "flush" if (number, at) != (1, 2) else "begin"):
                self.check_all(self.row(number, "running", at, phase), False, changed(FULL, stops=3))

    def test_ended(self):
        self.check_all(self.row(0, "ended", 2, "over"), True)
        self.check_all(self.row(0, "ended", 1, "over"), False)
        self.check_all(self.row(0, "ended", 0, "over"), False)
        self.check_all(self.row(1, "ended", 2, "over"), False)
        self.check_all(self.row(2, "ended", 1, "over"), False)
        self.check_all([((ARRIVALS, 0), ()), ((THREADS, 3, HAND), ((1, 1),))], False)
        self.check_all([((ARRIVALS, 0), ()), ((THREADS, 3, CACHES, 1), ((1, 1),))], False)
        self.check_all([((ARRIVALS, 0), ()), ((THREADS, 3, BATCHES, 1, 1), ((1, 1),))], False)

    def test_stopped(self):
        for at in (0, 1):
            self.check((THREADS, 4, AT), at, True)
        one = changed(FULL, stops=3)
        self.check_all(self.row(0, "stopped", 0, "over"), True, one)
        self.check_all(self.row(1, "stopped", 2, "over"), True, one)
        self.check_all(self.row(2, "stopped", 0, "over"), True, one)

    def test_recovered(self):
        for at in (0, 1):
            self.check((THREADS, 5, AT), at, True)
        self.check_all([((ARRIVALS, 0), ()), ((THREADS, 5, HAND), ((1, 1),))], False)
        self.check_all([((ARRIVALS, 0), ()), ((THREADS, 5, CACHES, 1), ((1, 1),))], False)
        self.check_all([((ARRIVALS, 0), ()), ((THREADS, 5, BATCHES, 1, 1), ((1, 1),))], False)
        self.check_all(self.row(4, "recovered", 1, "over"), False)
        self.check_all([((ARRIVALS, 1), ((7, 1),)), *self.row(4, "recovered", 1, "over", ())], True)

    def test_statuses(self):
        for status in ("waiting", "", "Running", "over"):
            for number in range(6):
                self.check((THREADS, number, STATUS), status, False)

    def test_number_of_stops(self):
        self.check_all(self.row(0, "stopped", 0, "over"), False)
        self.check_all(self.row(0, "recovered", 0, "over"), False)
        self.check_all(self.row(0, "recovered", 0, "over"), True, changed(FULL, stops=3))
        self.check_all(self.row(5, "running", 0, "begin"), True, changed(FULL, stops=1))
        self.assert_key(changed(FULL, stops=1), KEY, False)


class StateOfTests(unittest.TestCase):
    def test_states_with_their_keys(self):
        for machine, key in [(FULL, KEY), *[(LINE, key) for key in LINE_KEYS]]:
            state = state_of(machine, key)
            self.assertIsInstance(state, State)
            self.assertEqual(state.key, key)
            self.assertEqual((state.pages, state.slots, state.threads, state.arrivals, state.flight), key)

    def test_equal_to_the_states_of_the_machine(self):
        search = Search(LINE)
        for state in search.states():
            self.assertEqual(state_of(LINE, state.key), state)
            self.assertEqual(search.run_to(state_of(LINE, state.key)), search.run_to(state))
            self.assertEqual(LINE.moves(state_of(LINE, state.key)), LINE.moves(state))

    def test_values_that_are_no_valid_keys(self):
        for value in OTHERS + STRINGS + [0, [], (), list(KEY), KEY[:4], replaced_at(KEY, (0, 0, 1), 2)]:
            with self.assertRaises(InvalidState) as caught:
                state_of(FULL, value)
            self.assertIs(caught.exception.state, value)

    def test_machines_with_a_fault(self):
        machine = changed(LINE, fault="take")
        with self.assertRaises(InvalidState) as caught:
            state_of(machine, LINE_KEYS[0])
        self.assertIs(caught.exception.state, LINE_KEYS[0])

    def test_moves_of_a_state_that_no_run_reaches(self):
        state = state_of(FULL, KEY)
        self.assertEqual(FULL.moves(state), [
            ("carry", 0), ("recover", 4), ("step", 0), ("step", 1), ("step", 2),
        ])
        self.assertEqual(FULL.step(state, ("step", 0))[1], ("open", 6))


class ClosedTests(unittest.TestCase):
    def setUp(self):
        self.machine = Machine(
            2, [1], [(0, [("alloc", 0, 0)]), (1, [("free", 0)])], pages=2, stops=1, slots=1,
        )
        self.keys = [state.key for state in Search(self.machine).states()]

    def test_all_reachable_states(self):
        self.assertGreater(len(self.keys), 20)
        self.assertIs(check_closed(self.machine, self.keys), True)

    def test_any_order(self):
        chooser = random.Random(22)
        for _ in range(5):
            keys = list(self.keys)
            chooser.shuffle(keys)
            self.assertIs(check_closed(self.machine, keys), True)
        self.assertIs(check_closed(self.machine, self.keys[::-1]), True)

    def test_one_left_out(self):
        for index in range(len(self.keys)):
            keys = self.keys[:index] + self.keys[index + 1:]
            self.assertIs(check_closed(self.machine, keys), False)

    def test_one_doubled(self):
        for index, key in enumerate(self.keys):
            self.assertIs(check_closed(self.machine, [*self.keys, key]), False)
            self.assertIs(check_closed(self.machine, [*self.keys[:index], key, *self.keys[index:]]), False)

    def test_without_the_start(self):
        # Behind each of these there are all others, but not the start.
        self.assertIs(check_closed(self.machine, self.keys[1:]), False)
        self.assertIs(check_closed(LINE, LINE_KEYS[1:]), False)
        self.assertIs(check_closed(LINE, LINE_KEYS[3:]), False)
        self.assertIs(check_closed(LINE, []), False)

    def test_a_start_without_moves(self):
        machine = Machine(1, [1], [(0, [])])
        self.assertIs(check_closed(machine, [machine.start.key]), True)
        self.assertIs(check_closed(machine, []), False)

    def test_keys_that_are_not_reachable(self):
        other = replaced_at(LINE_KEYS[0], (SLOTS, 1), ("failure",))
        self.assertTrue(is_key(LINE, other))
        self.assertIs(check_closed(LINE, [*LINE_KEYS, other]), False)
        # All that can be reached from it as well.
        others = [replaced_at(key, (SLOTS, 1), ("failure",)) for key in LINE_KEYS]
        self.assertIs(check_closed(LINE, LINE_KEYS + others), True)
        self.assertIs(check_closed(LINE, others + LINE_KEYS), True)
        self.assertIs(check_closed(LINE, others), False)
        for index in range(1, 4):
            self.assertIs(check_closed(LINE, LINE_KEYS + others[index:]), True)
            self.assertIs(check_closed(LINE, LINE_KEYS + others[:index]), False)

    def test_one_that_is_no_valid_key(self):
        for value in OTHERS + [[], (), list(LINE_KEYS[0]), replaced_at(LINE_KEYS[0], (0, 0), ("spare", 0))]:
            self.assertIs(check_closed(LINE, [*LINE_KEYS, value]), False)
            self.assertIs(check_closed(LINE, [value, *LINE_KEYS]), False)
        for index in range(4):
            changed_keys = list(LINE_KEYS)
            changed_keys[index] = list(LINE_KEYS[index])
            self.assertIs(check_closed(LINE, changed_keys), False)
            changed_keys[index] = LINE.start
            self.assertIs(check_closed(LINE, changed_keys), False)

    def test_any_value(self):
        for value in OTHERS + STRINGS + [0, (), tuple(LINE_KEYS), {key: True for key in LINE_KEYS}, [LINE_KEYS]]:
            self.assertIs(check_closed(LINE, value), False)

    def test_machines_with_a_fault(self):
        machine = changed(LINE, fault="batches")
        keys = [state.key for state in Search(machine).states()]
        self.assertIs(check_closed(machine, keys), False)
        self.assertIs(check_closed(machine, []), False)

    def test_the_argument_is_not_modified(self):
        keys = list(self.keys)
        check_closed(self.machine, keys)
        self.assertEqual(keys, self.keys)

    def test_the_states_of_searches(self):
        chooser = random.Random(23)
        for machine, search in tiny_searches(24, 40):
            keys = [state.key for state in search.states()]
            self.assertTrue(check_closed(machine, keys))
            index = chooser.randrange(len(keys))
            self.assertFalse(check_closed(machine, keys[:index] + keys[index + 1:]))


class GuaranteeTests(unittest.TestCase):
    """Guarantee 7: closed sets, also of states that are not reachable."""

    def test_behind_every_move_the_key_is_valid(self):
        words = {}
        for machine, key in random_keys(25, 600):
            self.assertTrue(is_key(machine, key))
            state = state_of(machine, key)
            for move in machine.moves(state):
                follower, event = machine.step(state, move)
                words[event[0]] = words.get(event[0], 0) + 1
                self.assertTrue(is_key(machine, follower.key))
        self.assertEqual(set(words), set(
            "hit take home pass fill open fail keep batch nothing return adopt large grow send stop carry recover "
            "sweep".split()
        ))

    def test_all_that_can_be_reached_from_a_valid_key_is_closed_with_the_start(self):
        chooser = random.Random(26)
        closed = 0
        for machine, search in tiny_searches(27, 25):
            known = {state.key: state for state in search.states()}
            waiting = [state_of(machine, KeyMaker(chooser, machine).key()) for _ in range(3)]
            while waiting and len(known) < 3000:
                state = waiting.pop()
                if state.key not in known:
                    known[state.key] = state
                    waiting.extend([machine.step(state, move)[0] for move in machine.moves(state)])
            if not waiting:
                closed += len(known) > search.total
                self.assertTrue(check_closed(machine, list(known)))
        self.assertGreater(closed, 10)

    def test_one_part_changed(self):
        """Whatever is changed, it is told whether the key is valid, and all behind a valid one are so."""
        chooser = random.Random(28)
        valid = 0
        for machine, key in random_keys(29, 150):
            paths = paths_of(key)
            for _ in range(20):
                path, other = chooser.choice(paths), chooser.choice(paths)
                value = replaced_at(key, path, part_at(key, other))
                if is_key(machine, value):
                    valid += value != key
                    state = state_of(machine, value)
                    for move in machine.moves(state):
                        self.assertTrue(is_key(machine, machine.step(state, move)[0].key))
        self.assertGreater(valid, 20)

    def test_states_behind_runs(self):
        state = state_behind(LINE, "0 0")
        self.assertEqual(state_of(LINE, state.key), state)


if __name__ == "__main__":
    unittest.main()
