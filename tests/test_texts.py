"""homefrees.texts: point [19], the texts of machines."""

import random
import string
import unittest

from homefrees.errors import InvalidMachine, ParseError
from homefrees.machine import Machine
from homefrees.texts import machine_text, parse_machine
from support import OTHERS, changed, random_machine

HEAD = ["sockets 2", "classes 2 3", "pages 5", "batch 3", "spare 1", "slots 4", "stops 2"]
EXAMPLE = (
    "sockets 1\nclasses 2\npages 4\nbatch 1\nspare 0\nslots 2\nstops 0\nthread 0\nrepeat 2\nalloc 0 1\nfree 1\nend"
)
RICH = Machine(2, [2, 3], [
    (0, [("alloc", 1, 0), ("free", 0), ("drain",)]), (1, []), (1, [("adopt", 3), ("large", 8, 2), ("grow", 2)]),
], pages=5, batch=3, spare=1, slots=4, stops=2, fault="take")
RICH_TEXT = "\n".join([
    *HEAD, "fault take", "thread 0", "alloc 1 0", "free 0", "drain", "thread 1", "thread 1", "adopt 3", "large 8 2",
    "grow 2",
])


def text_of(*lines):
    """Return the text with these lines behind the head."""
    return "\n".join([*HEAD, *lines])


def program_of(*lines):
    """Return the program of the one thread with these lines."""
    machine = parse_machine(text_of("thread 1", *lines))
    return list(machine.threads[0][1])


class TextsTestCase(unittest.TestCase):
    def assert_parse_error(self, text, line):
        with self.subTest(text=text):
            with self.assertRaises(ParseError) as caught:
                parse_machine(text)
            self.assertEqual(caught.exception.line, line)

    def assert_invalid(self, text, name):
        with self.subTest(text=text):
            with self.assertRaises(InvalidMachine) as caught:
                parse_machine(text)
            self.assertEqual(caught.exception.name, name)


class MachineTextTests(TextsTestCase):
    def test_example(self):
        machine = parse_machine(EXAMPLE)
        found = [machine.threads, parse_machine(machine_text(machine)) == machine, machine_text(machine).split("\n")[7:9]]
        program = (("alloc", 0, 1), ("free", 1), ("alloc", 0, 1), ("free", 1))
        self.assertEqual(found, [((0, program),), True, ["thread 0", "alloc 0 1"]])

    def test_with_a_fault(self):
        self.assertEqual(machine_text(RICH), RICH_TEXT)
        for fault in ("take", "fill", "batches"):
            text = machine_text(changed(RICH, fault=fault))
            self.assertEqual(text, RICH_TEXT.replace("fault take", "fault " + fault))

    def test_without_a_fault(self):
        self.assertEqual(machine_text(changed(RICH, fault=None)), RICH_TEXT.replace("fault take\n", ""))

    def test_defaults(self):
        self.assertEqual(
            machine_text(Machine(1, [8], [(0, [])])),
            "sockets 1\nclasses 8\npages 4\nbatch 1\nspare 0\nslots 2\nstops 0\nthread 0",
        )

    def test_greatest_numbers(self):
        machine = Machine(4, [8, 8, 8], [(3, [("large", 8, 7)] * 30)] * 6, pages=64, batch=8, spare=8, slots=8, stops=6)
        lines = machine_text(machine).split("\n")
        self.assertEqual(lines[:8], [
            "sockets 4", "classes 8 8 8", "pages 64", "batch 8", "spare 8", "slots 8", "stops 6", "thread 3",
        ])
        self.assertEqual(len(lines), 7 + 6 * 31)
        self.assertEqual(parse_machine("\n".join(lines)), machine)

    def test_no_blocks_are_written(self):
        self.assertEqual(machine_text(parse_machine(text_of("thread 0", "repeat 3", "drain", "end"))).split("\n")[7:], [
            "thread 0", "drain", "drain", "drain",
        ])


class ParseMachineTests(TextsTestCase):
    def test_with_and_without_a_fault(self):
        self.assertEqual(parse_machine(RICH_TEXT), RICH)
        for fault in ("take", "fill", "batches"):
            found = parse_machine(RICH_TEXT.replace("fault take", "fault " + fault))
            self.assertEqual(found, changed(RICH, fault=fault))
            self.assertEqual(found.fault, fault)
        self.assertIsNone(parse_machine(RICH_TEXT.replace("fault take\n", "")).fault)

    def test_each_line_is_that_of_its_parameter(self):
        machine = parse_machine("sockets 3\nclasses 4 5 6\npages 7\nbatch 8\nspare 2\nslots 1\nstops 6\nthread 2\nfree 0")
        self.assertIsInstance(machine, Machine)
        found = (
            machine.sockets, machine.classes, machine.pages, machine.batch, machine.spare, machine.slots,
            machine.stops, machine.fault, machine.threads,
        )
        self.assertEqual(found, (3, (4, 5, 6), 7, 8, 2, 1, 6, None, ((2, (("free", 0),)),)))

    def test_programs_without_operations(self):
        self.assertEqual(parse_machine(text_of("thread 0", "thread 1", "thread 0")).threads, ((0, ()), (1, ()), (0, ())))

    def test_words_of_faults(self):
        for word in ("None", "none", "", "Take", "takes", "tak", "0", "take 1", " take", "take "):
            self.assert_parse_error(text_of("fault " + word, "thread 0"), 8)
        self.assert_parse_error(text_of("fault", "thread 0"), 8)
        self.assert_parse_error(text_of("faults take", "thread 0"), 8)

    def test_a_fault_elsewhere(self):
        self.assert_parse_error(text_of("thread 0", "fault take"), 9)
        self.assert_parse_error(text_of("fault take", "fault take", "thread 0"), 9)
        self.assert_parse_error("\n".join([*HEAD[:6], "fault take", HEAD[6], "thread 0"]), 7)
        self.assert_parse_error("\n".join(["fault take", *HEAD, "thread 0"]), 1)

    def test_lines_left_out_of_the_head(self):
        for index in range(7):
            lines = HEAD[:index] + HEAD[index + 1:]
            self.assert_parse_error("\n".join([*lines, "thread 0"]), index + 1)

    def test_lines_of_the_head_doubled(self):
        for index in range(7):
            lines = HEAD[:index] + [HEAD[index]] + HEAD[index:]
            self.assert_parse_error("\n".join([*lines, "thread 0"]), index + 2)

    def test_lines_of_the_head_exchanged(self):
        for index in range(7):
            for other in range(index + 1, 7):
                lines = list(HEAD)
                lines[index], lines[other] = lines[other], lines[index]
                self.assert_parse_error("\n".join([*lines, "thread 0"]), index + 1)

    def test_texts_that_end_too_early(self):
        self.assert_parse_error("", 1)
        for many in range(1, 7):
            self.assert_parse_error("\n".join(HEAD[:many]), many + 1)
        self.assert_parse_error(text_of("thread 0", "repeat 2"), 10)
        self.assert_parse_error(text_of("thread 0", "repeat 2", "drain"), 11)
        self.assert_parse_error(text_of("thread 0", "repeat 2", "repeat 1", "drain", "end"), 13)
        self.assert_parse_error(text_of("fault fill", "thread 0", "repeat 0"), 11)

    def test_line_feeds_at_the_end(self):
        for many in range(1, 7):
            self.assert_parse_error("\n".join(HEAD[:many]) + "\n", many + 1)
        self.assert_parse_error(text_of() + "\n", 8)
        self.assert_parse_error(text_of("fault take") + "\n", 9)
        self.assert_parse_error(text_of("thread 0") + "\n", 9)
        self.assert_parse_error(EXAMPLE + "\n", 13)
        self.assert_parse_error("\n", 1)
        self.assert_parse_error("\n" + EXAMPLE, 1)

    def test_numbers_in_the_head(self):
        for index, line in enumerate(HEAD):
            word = line.split(" ")[0]
            wrong = ["", " ", " 01", " 1.0", " -1", " +1", " 1 ", "  1", " one", " 1234567890", "\t1", " 1_0", " 0x1"]
            if word == "classes":
                wrong.extend([" 1 2 3 4", " 1 2 x", " 1  2", " 1 02"])
            else:
                wrong.extend([" 1 2", " 1 1"])
            for rest in wrong:
                lines = list(HEAD)
                lines[index] = word + rest
                self.assert_parse_error("\n".join([*lines, "thread 0"]), index + 1)

    def test_words_in_the_head(self):
        for index, line in enumerate(HEAD):
            for wrong in (line.upper(), line[1:], " " + line, line.replace(" ", ""), line + "\n", "x" + line, ""):
                lines = list(HEAD)
                lines[index] = wrong
                # A line feed too many is a line too many.
                self.assert_parse_error("\n".join([*lines, "thread 0"]), index + (2 if "\n" in wrong else 1))

    def test_numbers_beyond_the_limits_are_no_error_of_the_text(self):
        for index, name, number in (
            (0, "sockets", 0), (0, "sockets", 5), (1, "classes", 0), (1, "classes", 9), (2, "pages", 0),
            (2, "pages", 65), (3, "batch", 0), (3, "batch", 9), (4, "spare", 9), (5, "slots", 0), (5, "slots", 9),
            (6, "stops", 7), (0, "sockets", 999999999), (1, "classes", 999999999), (2, "pages", 999999999),
        ):
            lines = list(HEAD)
            lines[index] = f"{name} {number}"
            self.assert_invalid("\n".join([*lines, "thread 0"]), name)

    def test_texts_without_threads(self):
        self.assert_invalid(text_of(), "threads")
        self.assert_invalid(text_of("fault take"), "threads")
        # The leftmost parameter is named.
        self.assert_invalid("\n".join(["sockets 0", *HEAD[1:]]), "sockets")
        self.assert_invalid("\n".join([HEAD[0], "classes 1 9", *HEAD[2:]]), "classes")
        self.assert_invalid("\n".join([*HEAD[:2], "pages 0", *HEAD[3:]]), "threads")

    def test_threads_that_the_machine_cannot_have(self):
        self.assert_invalid(text_of("thread 2"), "threads")
        self.assert_invalid(text_of("thread 0", "thread 999999999"), "threads")
        self.assert_invalid(text_of("thread 0", "alloc 2 0"), "threads")
        self.assert_invalid(text_of("thread 0", "free 4"), "threads")
        self.assert_invalid(text_of(*["thread 0"] * 7), "threads")
        self.assertEqual(len(parse_machine(text_of(*["thread 0"] * 6)).threads), 6)

    def test_errors_of_the_text_come_first(self):
        self.assert_parse_error("\n".join(["sockets 0", *HEAD[1:], "thread 0", "free"]), 9)
        self.assert_parse_error(text_of("thread 9", "thread"), 9)
        self.assert_parse_error("sockets 9", 2)

    def test_thread_lines(self):
        for line in ("thread", "thread ", "thread  0", "thread 00", "thread 0 0", "thread x", "threads 0", "Thread 0"):
            self.assert_parse_error(text_of(line), 8)
            self.assert_parse_error(text_of("thread 0", "drain", line), 10)

    def test_operations_without_a_thread(self):
        for line in ("drain", "alloc 0 0", "repeat 2", "end", ""):
            self.assert_parse_error(text_of(line, "thread 0"), 8)
            self.assert_parse_error(text_of("fault take", line, "thread 0"), 9)

    def test_operations(self):
        lines = ["alloc 0 0", "alloc 1 3", "free 3", "adopt 0", "large 1 0", "large 8 3", "grow 2", "drain"]
        self.assertEqual(program_of(*lines), [
            ("alloc", 0, 0), ("alloc", 1, 3), ("free", 3), ("adopt", 0), ("large", 1, 0), ("large", 8, 3), ("grow", 2),
            ("drain",),
        ])

    def test_lines_that_are_no_operations(self):
        for line in (
            "alloc 3 0", "alloc 0 8", "free 8", "large 0 0", "large 9 0", "alloc 0", "free", "drain 0", "free 01",
            "free  1", "free 1 ", " free 1", "malloc 0 0", "sockets 1", "pages 1", "fault take", "step 0", "",
        ):
            self.assert_parse_error(text_of("thread 0", "drain", line), 10)
            self.assert_parse_error(text_of("thread 0", "repeat 1", line, "end"), 10)

    def test_programs_of_thirty_operations(self):
        self.assertEqual(program_of(*["drain"] * 30), [("drain",)] * 30)
        self.assert_invalid(text_of("thread 0", *["drain"] * 31), "threads")
        self.assertEqual(program_of("drain", "repeat 29", "drain", "end"), [("drain",)] * 30)
        self.assert_invalid(text_of("thread 0", "drain", "repeat 30", "drain", "end"), "threads")

    def test_values_of_other_kinds(self):
        for value in OTHERS + [0, 1, [], (), ["sockets 1"], EXAMPLE.encode(), [EXAMPLE], EXAMPLE.split("\n")]:
            self.assert_parse_error(value, None)


class BlockTests(TextsTestCase):
    def test_blocks(self):
        self.assertEqual(program_of("repeat 2", "free 0", "free 1", "end", "drain"), [
            ("free", 0), ("free", 1), ("free", 0), ("free", 1), ("drain",),
        ])
        self.assertEqual(program_of("free 0", "repeat 2", "free 1", "repeat 2", "free 2", "end", "end", "free 3"), [
            ("free", 0), ("free", 1), ("free", 2), ("free", 2), ("free", 1), ("free", 2), ("free", 2), ("free", 3),
        ])

    def test_numbers_of_times(self):
        for times in (0, 1, 2, 29, 30):
            self.assertEqual(program_of(f"repeat {times}", "drain", "end"), [("drain",)] * times)
        for word in ("31", "32", "100", "999999999", "00", "01", "-1", "x", "", "1 1", " 1"):
            self.assert_parse_error(text_of("thread 0", "repeat " + word, "drain", "end"), 9)
        self.assert_parse_error(text_of("thread 0", "repeat", "drain", "end"), 9)
        self.assert_parse_error(text_of("thread 0", "Repeat 1", "drain", "end"), 9)

    def test_blocks_without_operations(self):
        self.assertEqual(program_of("repeat 30", "end"), [])
        self.assertEqual(program_of("repeat 30", "repeat 0", "drain", "end", "end"), [])
        self.assertEqual(program_of("repeat 0", "end", "drain"), [("drain",)])

    def test_three_and_four_deep(self):
        three = ["repeat 2", "repeat 2", "repeat 2", "drain", "end", "end", "end"]
        self.assertEqual(program_of(*three), [("drain",)] * 8)
        four = ["repeat 1", "repeat 1", "repeat 1", "repeat 1", "drain", "end", "end", "end", "end"]
        self.assert_parse_error(text_of("thread 0", *four), 12)
        self.assert_parse_error(text_of("thread 0", "repeat 0", "repeat 0", "repeat 0", "repeat 0"), 12)
        # Behind a block there is room for another one as deep.
        inner = ["repeat 1", "repeat 2", "drain", "end", "end"]
        self.assertEqual(program_of("repeat 2", *inner, *inner, "end", *inner), [("drain",)] * 10)

    def test_blocks_of_thirty_and_more_operations(self):
        self.assertEqual(program_of("repeat 15", "drain", "drain", "end"), [("drain",)] * 30)
        self.assert_parse_error(text_of("thread 0", "repeat 16", "drain", "drain", "end"), 12)
        self.assertEqual(program_of("repeat 1", *["drain"] * 30, "end"), [("drain",)] * 30)
        self.assert_parse_error(text_of("thread 0", "repeat 1", *["drain"] * 31, "end"), 41)
        self.assertEqual(program_of("repeat 0", *["drain"] * 31, "end"), [])
        # That of a block in a block counts too, even if the outer one means none.
        self.assertEqual(program_of("repeat 0", "repeat 30", "drain", "end", "end"), [])
        self.assert_parse_error(text_of("thread 0", "repeat 0", "repeat 16", "drain", "drain", "end", "end"), 13)
        outer = ["repeat 5", "repeat 6", "drain", "end", "end"]
        self.assertEqual(program_of(*outer), [("drain",)] * 30)
        outer = ["repeat 5", "repeat 6", "drain", "end", "drain", "end"]
        self.assert_parse_error(text_of("thread 0", *outer), 14)

    def test_blocks_one_behind_the_other(self):
        blocks = ["repeat 10", "drain", "end"] * 3
        self.assertEqual(program_of(*blocks), [("drain",)] * 30)
        self.assert_invalid(text_of("thread 0", *blocks, "drain"), "threads")
        self.assert_invalid(text_of("thread 0", *blocks * 3), "threads")

    def test_many_operations_in_a_block(self):
        self.assert_parse_error(text_of("thread 0", "repeat 30", *["drain"] * 2000, "end"), 2010)

    def test_ends_missing_and_too_many(self):
        self.assert_parse_error(text_of("thread 0", "end"), 9)
        self.assert_parse_error(text_of("thread 0", "drain", "end"), 10)
        self.assert_parse_error(text_of("thread 0", "repeat 2", "drain", "end", "end"), 12)
        self.assert_parse_error(text_of("thread 0", "repeat 2", "drain"), 11)
        self.assert_parse_error(text_of("thread 0", "repeat 2", "drain", "thread 1"), 11)
        self.assert_parse_error(text_of("thread 0", "repeat 2", "drain", "thread 1", "end"), 11)

    def test_lines_that_are_no_ends(self):
        for line in ("end ", " end", "end 0", "End", "ends", ""):
            self.assert_parse_error(text_of("thread 0", "repeat 2", "drain", line), 11)

    def test_blocks_of_several_threads(self):
        machine = parse_machine(text_of("thread 0", "repeat 2", "drain", "end", "thread 1", "repeat 3", "free 0", "end"))
        self.assertEqual(machine.threads, ((0, (("drain",),) * 2), (1, (("free", 0),) * 3)))


class GuaranteeTests(TextsTestCase):
    """Guarantee 12: what is written is read back."""

    def test_what_is_written_is_read_back(self):
        chooser = random.Random(41)
        for index in range(300):
            machine = random_machine(chooser, (None, None, "take", "fill", "batches")[index % 5])
            text = machine_text(machine)
            self.assertEqual(parse_machine(text), machine)
            self.assertEqual(machine_text(parse_machine(text)), text)

    def test_one_character_changed(self):
        """A changed text is that of another machine, or raises one of the two errors."""
        chooser = random.Random(42)
        parsed = 0
        for text in (RICH_TEXT, EXAMPLE, text_of("thread 0", "repeat 3", "repeat 2", "free 0", "end", "drain", "end")):
            for index in range(len(text)):
                for character in chooser.sample(string.digits + string.ascii_lowercase + " \n", 8):
                    for other in (
                        text[:index] + character + text[index + 1:], text[:index] + character + text[index:],
                        text[:index] + text[index + 1:],
                    ):
                        parsed += self.check_changed(text, other)
        self.assertGreater(parsed, 100)

    def check_changed(self, text, other):
        lines, other_lines = text.split("\n"), other.split("\n")
        first = [one == two for one, two in zip(lines, other_lines)]
        changed_line = first.index(False) + 1 if False in first else min(len(lines), len(other_lines)) + 1
        try:
            machine = parse_machine(other)
        except ParseError as error:
            # What stands before the change can stand there still.
            self.assertGreaterEqual(error.line, changed_line)
            self.assertLessEqual(error.line, len(other_lines) + 1)
            return False
        except InvalidMachine:
            return False
        self.assertEqual(parse_machine(machine_text(machine)), machine)
        return True

    def test_lines_left_out_doubled_and_exchanged(self):
        chooser = random.Random(43)
        for _ in range(60):
            lines = machine_text(random_machine(chooser, chooser.choice([None, "fill"]))).split("\n")
            index, other = chooser.randrange(len(lines)), chooser.randrange(len(lines))
            swapped = list(lines)
            swapped[index], swapped[other] = lines[other], lines[index]
            for bent in (lines[:index] + lines[index + 1:], lines[:index + 1] + lines[index:], swapped):
                self.check_changed("\n".join(lines), "\n".join(bent))


if __name__ == "__main__":
    unittest.main()
