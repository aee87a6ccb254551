"""homefrees.errors: the bases, the fields, and that the arguments themselves are kept."""

import inspect
import unittest

from homefrees import errors
from homefrees.errors import HeapError

# The name of each error, that of its field, and its base.
ERRORS = [
    ("InvalidProgram", "index", HeapError),
    ("InvalidMachine", "name", HeapError),
    ("InvalidNumber", "value", HeapError),
    ("InvalidMove", "move", HeapError),
    ("InvalidRun", "index", HeapError),
    ("InvalidState", "state", HeapError),
    ("InvalidLogs", "index", HeapError),
    ("InvalidCommand", "value", HeapError),
    ("ParseError", "line", HeapError),
    ("LimitExceeded", "limit", OverflowError),
    ("NothingToUndo", "amount", RuntimeError),
]

VALUES = [
    None, True, False, 0, -1, 7, 10 ** 59, "", "word", b"", b"data", (), ("step", 0), [], [1, [2]],
    {}, {"key": [1]}, {1, 2}, object(), HeapError(), int, len,
]


class BaseTests(unittest.TestCase):
    def test_heap_error_is_a_direct_subclass_of_value_error(self):
        self.assertEqual(HeapError.__bases__, (ValueError,))

    def test_each_error_is_a_direct_subclass_of_its_base(self):
        for name, _, base in ERRORS:
            with self.subTest(name):
                self.assertEqual(getattr(errors, name).__bases__, (base,))

    def test_no_error_is_an_instance_of_another_one(self):
        for name, _, base in ERRORS:
            error = getattr(errors, name)(0)
            self.assertEqual(isinstance(error, HeapError), base is HeapError, name)
            for other, _, _ in ERRORS:
                with self.subTest(name, other=other):
                    self.assertEqual(isinstance(error, getattr(errors, other)), name == other)

    def test_each_error_is_defined_in_the_file(self):
        for name in ["HeapError"] + [name for name, _, _ in ERRORS]:
            with self.subTest(name):
                self.assertEqual(getattr(errors, name).__module__, "homefrees.errors")

    def test_there_are_no_other_errors(self):
        defined = [name for name, value in vars(errors).items() if inspect.isclass(value)]
        self.assertEqual(sorted(defined), sorted(["HeapError"] + [name for name, _, _ in ERRORS]))


class FieldTests(unittest.TestCase):
    def test_field_is_kept_itself_by_position(self):
        for name, field, _ in ERRORS:
            for value in VALUES:
                with self.subTest(name, value=value):
                    self.assertIs(getattr(getattr(errors, name)(value), field), value)

    def test_field_is_kept_itself_by_name(self):
        for name, field, _ in ERRORS:
            for value in VALUES:
                with self.subTest(name, value=value):
                    error = getattr(errors, name)(**{field: value})
                    self.assertIs(getattr(error, field), value)

    def test_field_is_no_copy(self):
        for name, field, _ in ERRORS:
            with self.subTest(name):
                value = [1]
                error = getattr(errors, name)(value)
                value.append(2)
                self.assertEqual(getattr(error, field), [1, 2])

    def test_field_is_needed_once(self):
        for name, field, _ in ERRORS:
            kind = getattr(errors, name)
            with self.subTest(name):
                self.assertRaises(TypeError, kind)
                self.assertRaises(TypeError, kind, 1, 2)
                self.assertRaises(TypeError, kind, **{field + "s": 1})

    def test_errors_are_raised_and_caught_by_their_bases(self):
        for name, field, base in ERRORS:
            value = object()
            with self.subTest(name), self.assertRaises(base) as caught:
                raise getattr(errors, name)(value)
            self.assertIs(getattr(caught.exception, field), value)


if __name__ == "__main__":
    unittest.main()
