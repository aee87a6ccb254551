"""homefrees.runs: point [5], texts of runs."""

import unittest

from homefrees.errors import InvalidRun, ParseError
from homefrees.runs import parse_run, run_text
from support import OTHERS, STRINGS, WORDS

GREATEST = 10 ** 9 - 1


class WritingTests(unittest.TestCase):
    def assert_invalid(self, moves, index):
        with self.subTest(moves=moves):
            with self.assertRaises(InvalidRun) as caught:
                run_text(moves)
            self.assertEqual(caught.exception.index, index)
            self.assertIs(type(caught.exception.index), type(index))

    def test_each_word(self):
        moves = [("step", 0), ("carry", 2), ("stop", 10), ("recover", GREATEST), ("sweep", 3)]
        text = "step 0\ncarry 2\nstop 10\nrecover 999999999\nsweep 3"
        self.assertEqual(run_text(moves), text)
        self.assertEqual(run_text(moves=tuple(moves)), text)
        self.assertEqual(len(moves), 5)

    def test_text_of_no_moves_is_empty(self):
        self.assertEqual([run_text([]), run_text(())], ["", ""])

    def test_moves_need_not_be_possible(self):
        self.assertEqual(run_text([("step", 100), ("sweep", 7)]), "step 100\nsweep 7")

    def test_index_of_the_first_item_that_is_no_move(self):
        good = ("step", 0)
        for wrong in (("step", -1), ("step", 10 ** 9), ("step", True), ["step", 0], "step 0", ("Step", 0)):
            self.assert_invalid([wrong], 0)
            self.assert_invalid((good, wrong), 1)
            self.assert_invalid([good, good, wrong, good, wrong], 2)

    def test_items_of_other_forms(self):
        for word in WORDS:
            for wrong in ((word,), (word, 0, 0), (0, word), (word, "0"), (word, None), (word, False), (word, (0,)),
                          (word, [0]), [word, 0], word, (word + " ", 0), (word.upper(), 0), (word.encode(), 0)):
                self.assert_invalid([wrong], 0)
        for wrong in OTHERS + STRINGS + [0, 7, (), [], ((), 0), ([], 0), ({}, 0), (None, 0), (True, 0), ("", 0),
                                         ("move", 0), ("alloc", 0), ("drain",), ("take", 0)]:
            self.assert_invalid([wrong], 0)

    def test_values_that_are_no_list_or_tuple(self):
        for value in OTHERS + STRINGS + [0, {("step", 0)}, {("step", 0): 0}]:
            self.assert_invalid(value, None)

    def test_one_move_is_no_run(self):
        self.assert_invalid(("step", 0), 0)


class ReadingTests(unittest.TestCase):
    def assert_wrong(self, text, line):
        with self.subTest(text=text):
            with self.assertRaises(ParseError) as caught:
                parse_run(text)
            self.assertEqual(caught.exception.line, line)
            self.assertIs(type(caught.exception.line), type(line))

    def test_each_word(self):
        moves = [("step", 0), ("carry", 2), ("stop", 10), ("recover", GREATEST), ("sweep", 3)]
        self.assertEqual(parse_run("step 0\ncarry 2\nstop 10\nrecover 999999999\nsweep 3"), moves)
        self.assertEqual(parse_run(text="step 7"), [("step", 7)])
        self.assertEqual([type(part) for part in parse_run("step 7")[0]], [str, int])

    def test_empty_text_has_no_moves(self):
        self.assertEqual(parse_run(""), [])

    def test_what_is_written_is_read_back(self):
        moves = [(word, number) for word in WORDS for number in (0, 1, 9, 10, 123456789, GREATEST)]
        self.assertEqual(parse_run(run_text(moves)), moves)

    def test_returned_list_is_new(self):
        parse_run("step 0").append("changed")
        self.assertEqual(parse_run("step 0"), [("step", 0)])

    def test_integers_are_written_in_one_way(self):
        for number in ("00", "01", "000000000", "+1", "-1", "-0", "1.0", "1_0", "0x1", "one", "", "1e3"):
            for word in WORDS:
                self.assert_wrong(f"step 0\n{word} {number}", 2)

    def test_nine_and_ten_digits(self):
        self.assertEqual(parse_run("carry 999999999"), [("carry", GREATEST)])
        for number in ("1000000000", "0000000001", "9999999999"):
            self.assert_wrong("carry " + number, 1)

    def test_blanks(self):
        for line in (" ", "  ", " step 0", "step 0 ", "step  0", "step\t0", "step,0", "step0", "step 0 0", "step"):
            self.assert_wrong(line, 1)
            self.assert_wrong("step 0\n" + line, 2)

    def test_line_feeds(self):
        self.assert_wrong("\n", 1)
        self.assert_wrong("step 0\n", 2)
        self.assert_wrong("\nstep 0", 1)
        self.assert_wrong("step 0\n\nstep 0", 2)
        self.assert_wrong("step 0\r\nstep 0", 1)

    def test_other_words(self):
        for line in ("Step 0", "STEP 0", "steps 0", "alloc 0", "drain", "0 step", "0", "0 0", "-", "move 0"):
            self.assert_wrong(line, 1)

    def test_first_wrong_line(self):
        self.assert_wrong("step 0\nstep 1\nstep\nstep 2\nx", 3)

    def test_values_of_other_kinds(self):
        for value in OTHERS + [0, [], ["step 0"], (), ("step", 0), b"step 0"]:
            self.assert_wrong(value, None)


if __name__ == "__main__":
    unittest.main()
