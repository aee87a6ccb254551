"""homefrees.state: point [3], the properties of a state, and how states are compared."""

import unittest

from homefrees.state import State

NAMES = ("pages", "slots", "threads", "arrivals", "flight")

PARTS = (
    (("small", 0, 0, (1,)), ("store",), ("spare", 0), ("large", 3)),
    (("block", 0, 0), None, ("large", 3, 1), ("failure",)),
    (("running", 0, "begin", (), ((),), (((),), ((),))),),
    (((0, 2),), ()),
    ((0, ((0, 3), (0, 4))),),
)

OTHER_PARTS = (
    (("store",), ("store",), ("store",), ("store",)),
    (None, None, None, None),
    (("ended", 1, "over", (), ((),), (((),), ((),))),),
    ((), ()),
    (),
)


def other_states():
    """Return states each of which differs from State(*PARTS) in one part only."""
    return [
        State(*[OTHER_PARTS[at] if at == changed else PARTS[at] for at in range(5)])
        for changed in range(5)
    ]


class PropertyTests(unittest.TestCase):
    def test_each_part_is_a_property(self):
        state = State(*PARTS)
        for name, part in zip(NAMES, PARTS):
            with self.subTest(name):
                self.assertEqual(getattr(state, name), part)

    def test_parts_by_name(self):
        state = State(**dict(zip(NAMES, PARTS)))
        self.assertEqual(state, State(*PARTS))

    def test_key_is_the_tuple_of_the_five(self):
        state = State(*PARTS)
        self.assertEqual(state.key, PARTS)
        self.assertIs(type(state.key), tuple)
        self.assertEqual(
            state.key,
            (state.pages, state.slots, state.threads, state.arrivals, state.flight),
        )

    def test_states_are_immutable(self):
        state = State(*PARTS)
        for name in NAMES + ("key",):
            with self.subTest(name):
                self.assertRaises(AttributeError, setattr, state, name, ())
                self.assertRaises(AttributeError, delattr, state, name)
        self.assertEqual(state.key, PARTS)


class EqualityTests(unittest.TestCase):
    def test_states_with_equal_keys_are_equal(self):
        first, second = State(*PARTS), State(*[tuple(list(part)) for part in PARTS])
        self.assertIs(first == second, True)
        self.assertIs(first != second, False)

    def test_states_that_differ_in_one_part_are_not_equal(self):
        state = State(*PARTS)
        for other in other_states():
            with self.subTest(other=other.key):
                self.assertIs(state == other, False)
                self.assertIs(other == state, False)
                self.assertIs(state != other, True)

    def test_order_of_the_parts_counts(self):
        self.assertFalse(State((), (), (), ((),), ()) == State((), (), (), (), ((),)))

    def test_states_are_not_equal_to_values_of_other_kinds(self):
        state = State(*PARTS)
        for value in (None, True, 0, "", "state", b"", (), [], {}, state.key, list(state.key), object()):
            with self.subTest(value=value):
                self.assertIs(state == value, False)
                self.assertIs(value == state, False)
                self.assertIs(state != value, True)

    def test_states_are_found_in_lists(self):
        self.assertIn(State(*PARTS), other_states() + [State(*PARTS)])
        self.assertNotIn(State(*PARTS), other_states())


if __name__ == "__main__":
    unittest.main()
