import unittest

from lumplooks.numbers import GREATEST, is_list, is_name, is_number, number_in
from tests.helpers import wrong_values


class NumbersTest(unittest.TestCase):
    def test_greatest(self):
        self.assertEqual(GREATEST, 10 ** 18 - 1)

    def test_numbers(self):
        for value in [0, 1, 5, 10 ** 18 - 1]:
            self.assertIs(is_number(value), True, value)
        for value in [-1, 10 ** 18, True, False, "5", None]:
            self.assertIs(is_number(value), False, value)

    def test_wrong_values_are_no_numbers(self):
        for value in wrong_values():
            self.assertIs(is_number(value), False, repr(value))

    def test_number_from_least_to_most(self):
        self.assertEqual([is_number(at, 3, 5) for at in range(7)], [False] * 3 + [True] * 3 + [False])
        self.assertIs(is_number(value=5, least=6), False)
        self.assertIs(is_number(5, most=4), False)
        self.assertIs(is_number(-2, -3, 0), True)
        self.assertIs(is_number(10 ** 18, most=10 ** 18), True)
        self.assertIs(is_number(True, 0, 5), False)
        self.assertIs(is_number(False, least=-1), False)

    def test_names(self):
        for value in ["a", "z", "ab", "abcdefgh", "zzzzzzzz"]:
            self.assertIs(is_name(value), True, value)
        for value in ["", "abcdefghi", "A", "aB", "a b", "a1", "1", "a-", "a\n", "\na", " ", "`", "{", "a,b"]:
            self.assertIs(is_name(value), False, value)
        self.assertIs(is_name(value="ab"), True)

    def test_each_single_character(self):
        for code in range(32, 127):
            self.assertIs(is_name(chr(code)), "a" <= chr(code) <= "z", chr(code))
            self.assertEqual(number_in(chr(code)), code - 48 if 48 <= code < 58 else None, chr(code))

    def test_wrong_values_are_no_names(self):
        for value in [5, *wrong_values()]:
            self.assertIs(is_name(value), False, repr(value))

    def test_number_in(self):
        for text, number in [("0", 0), ("7", 7), ("10", 10), ("100", 100), ("9" * 18, 10 ** 18 - 1)]:
            self.assertEqual(number_in(text), number)
        self.assertEqual(number_in(text="12"), 12)
        self.assertEqual(number_in("1" + "0" * 17), 10 ** 17)

    def test_number_in_other_texts(self):
        for text in ["", "00", "07", "9" * 19, "1" + "0" * 18, "0" * 19, "-1", "+1", " 1", "1 ", "1\n", "1_0", "1.0",
                     "a", "1a", "0x1", "1e3", "one"]:
            self.assertIsNone(number_in(text), text)

    def test_letters_and_figures_of_other_alphabets(self):
        for text in ["\u00e9", "a\u00e9", "\u03b1", "\u0663", "1\u0663", "\u00b2"]:
            self.assertIs(is_name(text), False, text)
            self.assertIsNone(number_in(text), text)

    def test_number_in_wrong_values(self):
        for value in [5, 0, *wrong_values()]:
            self.assertIsNone(number_in(value), repr(value))

    def test_lists_and_tuples_are_lists(self):
        for value in [[], (), [5], (5,), [[]], "ab", 5, None, *wrong_values()]:
            self.assertIs(is_list(value), type(value) in (list, tuple))


if __name__ == "__main__":
    unittest.main()
