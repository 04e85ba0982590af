import random
import unittest
from itertools import product

from lumplooks.errors import Clash, InvalidNumber, InvalidText
from lumplooks.letters import Letter, letter_for
from tests.helpers import (
    GREATEST, best_by_all_ways, best_by_suffixes, gaps_of, numbers_of_text, rows_of, runs_of, wrong_values,
)
from tests.test_letters import letter_of, subsets

# Numbers of 1 to 6 figures, near each other where the number of figures grows.
STAIRS = [7, 9, 10, 12, 98, 99, 101, 102, 1000, 9999, 10001, 10002, 100000]


def rising_row(chance, many, widest):
    """As many spans, with gaps between, whose ends have all numbers of figures."""
    runs = []
    low = chance.randrange(4)
    for _ in range(many):
        high = low + chance.choice([0, 0, 1, chance.randrange(10 ** chance.randrange(1, widest))])
        runs.append((low, high))
        low = high + 1 + chance.choice([1, 1, 2, chance.randrange(1, 10 ** chance.randrange(1, widest))])
    return runs


class TextTest(unittest.TestCase):
    def test_text(self):
        self.assertEqual(Letter((7, 9), (5, 5)).text(), "5; 7-9")
        self.assertEqual(Letter().text(), "none")
        self.assertEqual(Letter((100000, 100004), (100006, 100009)).text(), "100000-100004; 100006-100009")
        self.assertEqual(Letter((0, 0), (GREATEST, GREATEST)).text(), "0; 999999999999999999")

    def test_text_is_read_as_the_same_letter(self):
        for numbers in subsets(range(7)):
            letter = letter_of(numbers)
            self.assertTrue(Letter.read(letter.text()) == letter)
            self.assertTrue(Letter.read(letter.shortest()) == letter)


class ReadTest(unittest.TestCase):
    def assert_invalid(self, value):
        with self.assertRaises(InvalidText, msg=repr(value)) as caught:
            Letter.read(value)
        self.assertIs(caught.exception.given, value)

    def test_read(self):
        letter = Letter.read("100-199 but 120, 130-139; 250")
        self.assertEqual(letter.runs(), [(100, 119), (121, 129), (140, 199), (250, 250)])
        self.assertEqual(Letter.read("none").runs(), [])
        self.assertEqual(Letter.read(text="0").runs(), [(0, 0)])
        self.assertEqual(Letter.read("0-999999999999999999").runs(), [(0, GREATEST)])

    def test_terms_and_exceptions_may_touch(self):
        self.assertEqual(Letter.read("1-2; 3-4; 5").runs(), [(1, 5)])
        self.assertEqual(Letter.read("1-9 but 3, 4, 5-6, 8").runs(), [(1, 2), (7, 7), (9, 9)])
        self.assertEqual(Letter.read("1-9 but 2-8; 10-12 but 11").runs(), [(1, 1), (9, 10), (12, 12)])

    def test_wrong_order(self):
        for text in ["5-3", "5-5", "7; 5", "5; 5", "1-5; 5", "1-5; 3-9", "1-5; 0", "1-9 but 1", "1-9 but 9",
                     "1-9 but 0", "1-9 but 5-9", "1-9 but 1-5", "1-9 but 5, 5", "1-9 but 5, 4", "1-9 but 3-5, 5",
                     "1-9 but 10", "1-9 but 3, 10", "5 but 5", "1-2 but 1", "1-9 but 5-3", "1-9 but 3-3"]:
            self.assert_invalid(text)

    def test_wrong_form(self):
        for text in ["", " ", "None", "none ", " none", "none; 5", "5; none", "none but 5", "1-9 but none", "5;7", "5 ;7",
                     "5,7", "5, 7", "5;  7", "5; ", "; 5", ";", "5;", "1 - 9", "1-", "-9", "-", "1--9", "1-5-9",
                     "1-9 but", "1-9 but ", " but 5", "1-9 but 3 but 5", "1-9 but 3,5", "1-9 but 3,  5", "1-9 but 3, ",
                     "1-9 but , 3", "1-9  but 3", "1-9but 3", "1-9 BUT 3", "05", "00", "1-05", "01-5", "1-9 but 03",
                     "5\n", "\n5", "+5", "5.0", "a", "1-9 but a", "1-9;but 3", "1_0", "0x5", "5-9 but 6; but 7"]:
            self.assert_invalid(text)

    def test_18_and_19_figures(self):
        self.assertEqual(Letter.read("9" * 18).runs(), [(GREATEST, GREATEST)])
        for text in ["1" + "0" * 18, "9" * 19, "0" * 19, "5-" + "9" * 19, "0-" + "9" * 18 + " but " + "1" * 19]:
            self.assert_invalid(text)

    def test_wrong_values(self):
        for value in [5, 0, *wrong_values()]:
            self.assert_invalid(value)

    def test_texts_with_one_character_changed(self):
        seen = {True: 0, False: 0}  # whether a text is wrong: how many there were
        for text in ["10-19 but 12, 14-16; 20", "none", "0; 2-9 but 5; 11", "1-4 but 2, 3; 7"]:
            changed = {text[:at] + text[at + 1:] for at in range(len(text))}
            for sign in "0129-;, butnoe\n":
                changed.update([text[:at] + sign + text[at:] for at in range(len(text) + 1)])
                changed.update([text[:at] + sign + text[at + 1:] for at in range(len(text))])
            for other in sorted(changed):
                numbers = numbers_of_text(other)
                seen[numbers is None] += 1
                if numbers is None:
                    self.assert_invalid(other)
                else:
                    self.assertEqual(Letter.read(other).runs(), runs_of(numbers), other)
        self.assertGreater(min(seen.values()), 40)

    def test_all_short_texts(self):
        for size in range(5):
            for signs in product("01-; ", repeat=size):
                text = "".join(signs)
                numbers = numbers_of_text(text)
                if numbers is None:
                    self.assert_invalid(text)
                else:
                    self.assertEqual(Letter.read(text).runs(), runs_of(numbers), text)


class ShortestTest(unittest.TestCase):
    def test_ordinary(self):
        wide = Letter((100000, 100004), (100006, 100009))
        self.assertEqual(wide.shortest(), "100000-100009 but 100005")
        self.assertEqual(Letter().shortest(), "none")
        self.assertEqual(Letter((0, GREATEST)).shortest(), "0-999999999999999999")
        self.assertEqual(Letter((5, 9)).shortest(), "5-9")

    def test_least_of_texts_with_as_many_characters(self):
        # 10-16 but 13 has as many characters.
        self.assertEqual(Letter((10, 12), (14, 16)).shortest(), "10-12; 14-16")
        # 97-99; 101-105 has as many.
        self.assertEqual(Letter((97, 99), (101, 105)).shortest(), "97-105 but 100")

    def test_all_letters_of_few_numbers(self):
        for numbers in subsets(STAIRS[:11]):
            self.assert_best(runs_of(numbers))
        for first in [3, 94, 996, 99995]:
            for numbers in subsets(range(first, first + 11)):
                self.assert_best(runs_of(numbers))

    def assert_best(self, runs):
        self.assertEqual(Letter(*runs).shortest(), best_by_all_ways(runs, gaps_of(runs)))

    def test_letters_with_several_runs(self):
        chance = random.Random(5)
        for _ in range(600):
            self.assert_best(rising_row(chance, chance.randrange(1, 10), chance.randrange(2, 8)))

    def test_letters_with_many_runs(self):
        chance = random.Random(6)
        for _ in range(20):
            runs = rising_row(chance, 80, 4)
            self.assertEqual(Letter(*runs).shortest(), best_by_suffixes(runs, gaps_of(runs)))

    def test_letter_with_very_many_runs(self):
        letter = Letter(*rising_row(random.Random(7), 20000, 5))
        text = letter.shortest()
        self.assertTrue(Letter.read(text) == letter)
        self.assertLess(len(text), len(letter.text()))

    def test_all_numbers_but_some(self):
        runs = [(at * 10, at * 10 + 8) for at in range(10 ** 5, 10 ** 5 + 3000)]
        text = Letter(*runs).shortest()
        self.assertTrue(text.startswith("1000000-1029998 but 1000009, 1000019, "))
        self.assertTrue(Letter.read(text) == Letter(*runs))

    def test_texts_change_nothing(self):
        letter = Letter((100000, 100004), (100006, 100009))
        for _ in range(2):
            texts = [letter.text(), letter.shortest(), repr(letter)]
            self.assertEqual(texts[1], "100000-100009 but 100005")
            self.assertEqual(letter.runs(), [(100000, 100004), (100006, 100009)])


class LetterForTest(unittest.TestCase):
    def test_ordinary(self):
        self.assertEqual(letter_for([12, 14, 15], [13]), "12; 14-15")
        self.assertEqual(letter_for([], []), "none")
        self.assertEqual(letter_for([], [5, 6]), "none")
        self.assertEqual(letter_for([5], []), "5")
        self.assertEqual(letter_for([9, 5], []), "5-9")
        self.assertEqual(letter_for([9, 5], [3, 11]), "5-9")
        self.assertEqual(letter_for(others=[7], wanted=[5, 9]), "5; 9")
        self.assertEqual(letter_for([0, GREATEST], []), "0-999999999999999999")

    def test_exceptions_have_only_the_others(self):
        text = letter_for([100000, 100010, 100020, 100030], [100014, 100012])
        self.assertEqual(text, "100000-100010; 100020-100030")
        self.assertEqual(letter_for([100000, 200000, 300000, 400000], [255555, 277777]), "100000-200000; 300000-400000")
        self.assertEqual(letter_for([100000, 200000, 300000, 400000], [250000]), "100000-400000 but 250000")
        self.assertEqual(letter_for([100, 1000, 10000, 100000], [5, 200, 2000, 300000]), "100; 1000; 10000-100000")

    def test_least_of_texts_with_as_many_characters(self):
        # 5; 1000-1001 has as many characters, and - stands before ; among them.
        self.assertEqual(letter_for([5, 1000, 1001], [7]), "5-1001 but 7")
        # 10-16 but 13 has as many.
        self.assertEqual(letter_for([10, 12, 14, 16], [13]), "10-12; 14-16")

    def test_order_and_duplicates(self):
        for wanted, others in [([12, 14, 15], [13, 40]), ([15, 12, 14, 12], [40, 13, 13]), ((14, 15, 12), (13, 40, 40))]:
            self.assertEqual(letter_for(wanted, others), "12; 14-15")

    def test_arguments_stay(self):
        wanted, others = [15, 12, 14, 12], [40, 13, 13]
        letter_for(wanted, others)
        self.assertEqual([wanted, others], [[15, 12, 14, 12], [40, 13, 13]])

    def test_all_lists_of_few_numbers(self):
        for numbers in [STAIRS[:8], STAIRS[2:10], STAIRS[5:], [0, 8, 100, 101, 1000, 1001, 10 ** 5, GREATEST]]:
            for kinds in product(range(3), repeat=len(numbers)):
                wanted = [number for number, kind in zip(numbers, kinds) if kind == 1]
                others = [number for number, kind in zip(numbers, kinds) if kind == 2]
                self.assertEqual(letter_for(wanted, others), best_by_all_ways(*rows_of(wanted, others)))

    def test_the_text_is_right(self):
        chance = random.Random(8)
        for _ in range(300):
            numbers = chance.sample(range(10 ** chance.randrange(2, 7)), 60)
            wanted, others = numbers[:30], numbers[30:]
            letter = Letter.read(letter_for(wanted, others))
            self.assertTrue(all(number in letter for number in wanted))
            self.assertFalse(any(number in letter for number in others))

    def test_lists_of_150_numbers(self):
        chance = random.Random(9)
        for size in [3, 4, 6, 18]:
            for many_others in [150, 40, 5]:
                numbers = chance.sample(range(10 ** size), 150 + many_others)
                wanted, others = numbers[:150], numbers[150:]
                self.assertEqual(letter_for(wanted, others), best_by_suffixes(*rows_of(wanted, others)))
                self.assertEqual(letter_for(others, wanted), best_by_suffixes(*rows_of(others, wanted)))

    def test_wrong_numbers(self):
        for value in ["5", -1, 10 ** 18, *wrong_values()]:
            for wanted, others in [([value], []), ([], [value]), ([5, value], [5]), ([5], [5, value]), ([5], (value, -1))]:
                with self.assertRaises(InvalidNumber) as caught:
                    letter_for(wanted, others)
                self.assertIs(caught.exception.given, value)

    def test_first_wrong_number_counts(self):
        for wanted, others, given in [
            ([5, -1, -2], [-3], -1), ([5, 5], [5, -3, -4], -3), ([None], [True], None),
        ]:
            with self.assertRaises(InvalidNumber) as caught:
                letter_for(wanted, others)
            self.assertEqual(caught.exception.given, given)

    def test_numbers_in_both_lists(self):
        for wanted, others, at in [([5], [5], 0), ([5, 7], [6, 7, 5], 1), ([7, 7], [8, 9, 9, 7, 7], 3), ((0,), (1, 0), 1)]:
            with self.assertRaises(Clash) as caught:
                letter_for(wanted, others)
            self.assertEqual(caught.exception.at, at)


if __name__ == "__main__":
    unittest.main()
