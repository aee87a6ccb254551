"""homefrees.integers: what an integer is, as a value and in a text (general rules, point [1])."""

import unittest

from homefrees.integers import is_between, is_int, read_int


class ValueTests(unittest.TestCase):
    def test_integers(self):
        for value in (0, 1, -1, 10 ** 59):
            self.assertIs(is_int(value), True)

    def test_values_that_are_no_integers(self):
        for value in (True, False, None, "1", b"1", (1,), [1], {1: 1}, object()):
            with self.subTest(value=value):
                self.assertIs(is_int(value), False)
                self.assertIs(is_between(value, 0, 9), False)

    def test_limits_belong_to_the_range(self):
        found = [number for number in range(-2, 12) if is_between(number, 1, 8)]
        self.assertEqual(found, [1, 2, 3, 4, 5, 6, 7, 8])


class TextTests(unittest.TestCase):
    def test_one_to_nine_digits(self):
        words = ["0", "7", "10", "100", "123456789", "999999999"]
        self.assertEqual([read_int(word) for word in words], [0, 7, 10, 100, 123456789, 999999999])

    def test_words_that_are_no_integers(self):
        words = [
            "", " ", "00", "01", "007", "000000000", "1000000000", "0000000001", "+1", "-1", "-0",
            "1.0", "1_0", "0x1", "1a", "one", " 1", "1 ", "1\n", "1e3",
            "\u00b2", "\u0663",
        ]
        for word in words:
            with self.subTest(word=word):
                self.assertIsNone(read_int(word))


if __name__ == "__main__":
    unittest.main()
