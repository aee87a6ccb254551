"""homefrees.programs: point [1], operations."""

import unittest

from homefrees.errors import InvalidProgram, ParseError
from homefrees.programs import is_operation, parse_program, program_text

ONE_SLOT = ("free", "adopt", "grow")


def all_operations():
    operations = [("alloc", kind, slot) for kind in range(3) for slot in range(8)]
    operations += [(word, slot) for word in ONE_SLOT for slot in range(8)]
    operations += [("large", pages, slot) for pages in range(1, 9) for slot in range(8)]
    return operations + [("drain",)]


class OperationTests(unittest.TestCase):
    def assert_none(self, values):
        for value in values:
            with self.subTest(value=value):
                self.assertIs(is_operation(value), False)

    def test_all_operations(self):
        for operation in all_operations():
            with self.subTest(operation=operation):
                self.assertIs(is_operation(operation), True)

    def test_classes_beyond_the_limits(self):
        self.assert_none([("alloc", kind, 0) for kind in (-1, 3, 10, -(10 ** 59), 10 ** 59)])

    def test_slots_beyond_the_limits(self):
        for slot in (-1, 8, 10, -(10 ** 59), 10 ** 59):
            self.assert_none([("alloc", 0, slot), ("large", 1, slot)])
            self.assert_none([(word, slot) for word in ONE_SLOT])

    def test_pages_beyond_the_limits(self):
        self.assert_none([("large", pages, 0) for pages in (-1, 0, 9, 10, 10 ** 59)])

    def test_items_left_out(self):
        self.assert_none([(), ("alloc",), ("alloc", 0), ("large",), ("large", 1)])
        self.assert_none([(word,) for word in ONE_SLOT])
        self.assert_none([(0,), (0, 0), (1, 0)])

    def test_items_added(self):
        for added in (0, 1, None, "", True):
            self.assert_none([operation + (added,) for operation in all_operations()])

    def test_true_and_false_are_no_integers(self):
        for wrong in (True, False):
            self.assert_none([("alloc", wrong, 0), ("alloc", 0, wrong)])
            self.assert_none([("large", wrong, 0), ("large", 1, wrong), (wrong,), (wrong, 0)])
            self.assert_none([(word, wrong) for word in ONE_SLOT])

    def test_items_of_other_kinds(self):
        for wrong in (None, "0", "", b"0", (), (0,), [], [0], {}, {0: 0}, set(), object()):
            self.assert_none([("alloc", wrong, 0), ("alloc", 0, wrong)])
            self.assert_none([("large", wrong, 0), ("large", 1, wrong)])
            self.assert_none([(word, wrong) for word in ONE_SLOT])
            self.assert_none([(wrong,), (wrong, 0), (wrong, 0, 0), ("drain", wrong)])

    def test_other_words(self):
        for word in ("", "Alloc", "ALLOC", " alloc", "alloc ", "allocate", "step", "drain\n"):
            self.assert_none([(word,), (word, 0), (word, 1, 0)])
        for word in (b"alloc", b"free", b"drain", ["alloc"], ("alloc",), {"alloc": 0}):
            self.assert_none([(word,), (word, 0), (word, 1, 0)])

    def test_lists_are_no_operations(self):
        self.assert_none([list(operation) for operation in all_operations()])

    def test_values_of_other_kinds(self):
        self.assert_none([None, True, False, 0, 1, "", "drain", "free 0", b"drain", [], {}, set()])
        self.assert_none([{"drain": 0}, {"drain"}, object(), (("drain",),), [("drain",)], int])

    def test_value_by_name_is_not_modified(self):
        value = ["alloc", 0, 0]
        self.assertIs(is_operation(value=value), False)
        self.assertIs(is_operation(value=("alloc", 0, 0)), True)
        self.assertEqual(value, ["alloc", 0, 0])


class WritingTests(unittest.TestCase):
    def assert_invalid(self, program, index):
        with self.subTest(program=program):
            with self.assertRaises(InvalidProgram) as caught:
                program_text(program)
            self.assertIs(type(caught.exception.index), type(index))
            self.assertEqual(caught.exception.index, index)

    def test_example(self):
        self.assertEqual(program_text([("large", 2, 0), ("grow", 0)]), "large 2 0\ngrow 0")

    def test_each_word(self):
        program = [("alloc", 0, 2), ("free", 7), ("adopt", 1), ("large", 8, 3), ("grow", 4), ("drain",)]
        text = "alloc 0 2\nfree 7\nadopt 1\nlarge 8 3\ngrow 4\ndrain"
        self.assertEqual(program_text(program), text)
        self.assertEqual(program_text(program=tuple(program)), text)

    def test_text_of_no_operations_is_empty(self):
        self.assertEqual(program_text([]), "")
        self.assertEqual(program_text(()), "")

    def test_one_operation_has_no_line_feed(self):
        self.assertEqual(program_text([("drain",)]), "drain")

    def test_programs_may_be_longer_than_those_of_machines(self):
        self.assertEqual(program_text([("free", 0)] * 100), "\n".join(["free 0"] * 100))

    def test_argument_is_not_modified(self):
        program = [("free", 0), ("drain",)]
        program_text(program)
        self.assertEqual(program, [("free", 0), ("drain",)])

    def test_index_of_the_first_item_that_is_no_operation(self):
        good = ("free", 0)
        for wrong in (("free", 8), ("free", True), ["free", 0], "free 0", None, (), 0, ("x",)):
            self.assert_invalid([wrong], 0)
            self.assert_invalid([good, wrong], 1)
            self.assert_invalid((good, good, wrong), 2)
            self.assert_invalid([good, wrong, good, wrong], 1)

    def test_values_of_other_kinds(self):
        for value in (None, True, 0, "", "drain", b"", {}, {0: ("drain",)}, set(), object()):
            self.assert_invalid(value, None)

    def test_one_operation_is_no_program(self):
        self.assert_invalid(("drain",), 0)


class ReadingTests(unittest.TestCase):
    def assert_wrong(self, text, line):
        with self.subTest(text=text):
            with self.assertRaises(ParseError) as caught:
                parse_program(text)
            self.assertIs(type(caught.exception.line), type(line))
            self.assertEqual(caught.exception.line, line)

    def test_examples(self):
        self.assertEqual(
            parse_program("alloc 0 1\nfree 1\ndrain"),
            [("alloc", 0, 1), ("free", 1), ("drain",)],
        )
        self.assertEqual(parse_program(""), [])

    def test_each_word(self):
        text = "alloc 2 7\nfree 0\nadopt 7\nlarge 1 7\nlarge 8 0\ngrow 3\ndrain"
        self.assertEqual(
            parse_program(text=text),
            [("alloc", 2, 7), ("free", 0), ("adopt", 7), ("large", 1, 7), ("large", 8, 0),
             ("grow", 3), ("drain",)],
        )

    def test_items_are_tuples_of_strings_and_integers(self):
        program = parse_program("alloc 0 1\ndrain")
        self.assertIs(type(program), list)
        self.assertEqual([type(operation) for operation in program], [tuple, tuple])
        self.assertEqual([type(item) for item in program[0]], [str, int, int])

    def test_what_is_written_is_read_back(self):
        program = all_operations()
        self.assertEqual(parse_program(program_text(program)), program)
        self.assertEqual(parse_program(program_text(tuple(program))), program)

    def test_returned_list_is_new(self):
        for text in ("", "drain"):
            first = parse_program(text)
            expected = list(first)
            first.append("changed")
            self.assertEqual(parse_program(text), expected)

    def test_empty_lines(self):
        self.assert_wrong("\n", 1)
        self.assert_wrong("\n\n", 1)
        self.assert_wrong("\ndrain", 1)
        self.assert_wrong("drain\n\ndrain", 2)

    def test_line_feed_at_the_end_begins_one_more_line(self):
        self.assert_wrong("drain\n", 2)
        self.assert_wrong("free 0\ndrain\n", 3)
        self.assert_wrong("drain\n\n", 2)

    def test_first_line_that_is_no_operation(self):
        self.assert_wrong("drain\nfree 8\nfree 9", 2)
        self.assert_wrong("free 0\nfree 1\nfree 2\nfree\ndrain\n", 4)

    def test_integers_are_written_in_one_way(self):
        for number in ("00", "01", "000000001", "+1", "-1", "-0", "1.0", "0x1", "one", "1_0", ""):
            for line in ("free " + number, "alloc 0 " + number, "alloc " + number + " 0"):
                self.assert_wrong("drain\n" + line, 2)

    def test_integers_with_nine_and_ten_digits(self):
        for number in ("123456789", "999999999", "1000000000", "0000000001"):
            self.assert_wrong("free " + number, 1)
            self.assert_wrong("large " + number + " 0", 1)

    def test_numbers_beyond_the_limits(self):
        for line in ("alloc 3 0", "alloc 0 8", "free 8", "adopt 8", "large 0 0", "large 9 0",
                     "large 1 8", "grow 8"):
            self.assert_wrong(line, 1)
            self.assert_wrong("drain\n" + line + "\ndrain", 2)

    def test_blanks(self):
        for line in (" ", "  ", " free 0", "free 0 ", "free  0", " drain", "drain ", "alloc 0  1",
                     "alloc  0 1", "free\t0", "free,0"):
            self.assert_wrong(line, 1)
            self.assert_wrong("drain\n" + line, 2)

    def test_items_left_out_or_added(self):
        for line in ("alloc", "alloc 0", "alloc 0 0 0", "free", "free 0 0", "adopt", "adopt 0 0",
                     "large", "large 1", "large 1 0 0", "grow", "grow 0 0", "drain 0", "0", "0 0"):
            self.assert_wrong(line, 1)

    def test_other_words(self):
        for line in ("Drain", "FREE 0", "step 0", "drains", "free0", "repeat 2", "end", "-", "#"):
            self.assert_wrong(line, 1)

    def test_only_line_feeds_separate_lines(self):
        for separator in ("\r", "\r\n", "\x0b", "\x0c", "\x1c", "\x85", "\u2028", ";"):
            self.assert_wrong("drain" + separator + "drain", 1)

    def test_values_of_other_kinds(self):
        for value in (None, True, 0, b"", b"drain", [], ["drain"], (), ("drain",), {}, object()):
            self.assert_wrong(value, None)


if __name__ == "__main__":
    unittest.main()
