import inspect
import unittest
from itertools import combinations, product

from lumplooks.errors import InvalidNumber, InvalidSpan
from lumplooks.letters import Letter, cut
from lumplooks.seats import Thing
from tests.helpers import GREATEST, gaps_of, runs_of, wrong_values


def letter_of(numbers):
    return Letter(*[(number, number) for number in numbers])


def subsets(numbers):
    return [set(some) for many in range(len(numbers) + 1) for some in combinations(numbers, many)]


class MakingTest(unittest.TestCase):
    def test_spans_in_any_order(self):
        letter = Letter((20, 30), (5, 5), (7, 9))
        self.assertEqual(letter.runs(), [(5, 5), (7, 9), (20, 30)])

    def test_spans_that_overlap_or_touch(self):
        self.assertEqual(Letter((1, 5), (3, 9)).runs(), [(1, 9)])
        self.assertEqual(Letter((6, 9), (1, 5)).runs(), [(1, 9)])
        self.assertEqual(Letter((1, 9), (3, 4)).runs(), [(1, 9)])
        self.assertEqual(Letter((1, 9), (1, 9)).runs(), [(1, 9)])
        self.assertEqual(Letter((1, 9), (3, 4), (11, 12), (8, 9)).runs(), [(1, 9), (11, 12)])
        self.assertEqual(Letter((1, 2), (5, 6), (3, 4)).runs(), [(1, 6)])
        self.assertEqual(Letter((1, 4), (6, 9)).runs(), [(1, 4), (6, 9)])

    def test_ends_of_all_numbers(self):
        letter = Letter((0, 0), (GREATEST, GREATEST))
        self.assertEqual(letter.runs(), [(0, 0), (GREATEST, GREATEST)])
        self.assertEqual(Letter((0, GREATEST)).many, 10 ** 18)

    def test_greatest(self):
        self.assertEqual([Letter.GREATEST, Letter().GREATEST], [GREATEST, GREATEST])

    def test_wrong_spans(self):
        for value in [5, "5-9", *wrong_values()]:
            for spans, at in [([value], 0), ([(0, 0), value], 1), ([(1, 2), (0, GREATEST), value, value], 2)]:
                with self.assertRaises(InvalidSpan) as caught:
                    Letter(*spans)
                self.assertEqual(caught.exception.at, at)

    def test_wrong_ends(self):
        for value in wrong_values():
            for wrong in [(value, 5), (5, value), (value, value)]:
                with self.assertRaises(InvalidSpan):
                    Letter(wrong)
        for wrong in [(-1, 5), (0, 10 ** 18), (6, 5), (0, True), [0, 5]]:
            with self.assertRaises(InvalidSpan):
                Letter(wrong)

    def test_all_letters_of_few_spans(self):
        spans = [(low, high) for low in range(5) for high in range(low, 5)]
        for some in product(spans, repeat=3):
            numbers = {number for low, high in some for number in range(low, high + 1)}
            self.assertEqual(Letter(*some).runs(), runs_of(numbers))


class ReadingTest(unittest.TestCase):
    def test_runs_are_new(self):
        letter = Letter((5, 5), (7, 9))
        letter.runs().append((20, 30))
        letter.runs().clear()
        self.assertEqual(letter.runs(), [(5, 5), (7, 9)])
        self.assertIsInstance(letter.runs(), list)

    def test_walk_is_a_generator_of_the_runs(self):
        letter = Letter((7, 9), (5, 5))
        walk = letter.walk()
        self.assertTrue(inspect.isgenerator(walk))
        self.assertEqual(list(walk), [(5, 5), (7, 9)])
        self.assertEqual(list(letter.walk()), [(5, 5), (7, 9)])
        self.assertEqual(list(Letter().walk()), [])

    def test_many(self):
        self.assertEqual([Letter().many, Letter((5, 5)).many, Letter((5, 5), (7, 9)).many], [0, 1, 4])
        with self.assertRaises(AttributeError):
            Letter().many = 5

    def test_contains(self):
        letter = Letter((5, 5), (7, 9))
        self.assertEqual([number for number in range(20) if number in letter], [5, 7, 8, 9])
        whole = Letter((0, GREATEST))
        self.assertTrue(0 in whole and GREATEST in whole)
        self.assertFalse(0 in Letter() or GREATEST in Letter())

    def test_contains_no_wrong_value(self):
        for value in wrong_values():
            self.assertIs(value in Letter((0, GREATEST)), False, repr(value))

    def test_bool(self):
        self.assertEqual([bool(Letter()), bool(Letter((0, 0))), bool(Letter((5, 9)))], [False, True, True])

    def test_repr(self):
        self.assertEqual(repr(Letter((7, 9), (5, 5))), "Letter(5; 7-9)")
        self.assertEqual(repr(Letter()), "Letter(none)")
        self.assertEqual(repr(Letter((0, GREATEST))), "Letter(0-999999999999999999)")


class OperatorsTest(unittest.TestCase):
    def test_all_pairs_of_small_letters(self):
        for shift in [0, GREATEST - 5]:
            some = subsets([number + shift for number in range(6)])
            pairs = [(numbers, letter_of(numbers)) for numbers in some]
            for (one, first), (other, second) in product(pairs, pairs):
                self.assertEqual((first | second).runs(), runs_of(one | other))
                self.assertEqual((first & second).runs(), runs_of(one & other))
                self.assertEqual((first - second).runs(), runs_of(one - other))
                self.assertIs(first == second, one == other)
                self.assertIs(first != second, one != other)
                self.assertIs(first.within(second), one <= other)

    def test_with_all_numbers(self):
        whole = Letter((0, GREATEST))
        letter = Letter((0, 4), (9, 9), (GREATEST, GREATEST))
        rest = whole - letter
        self.assertEqual(rest.runs(), [(5, 8), (10, GREATEST - 1)])
        self.assertTrue(rest | letter == whole and not rest & letter and whole - rest == letter)
        self.assertTrue(letter.within(whole) and not whole.within(letter))
        self.assertEqual((whole - whole).runs(), [])
        self.assertEqual((whole - Letter()).runs(), [(0, GREATEST)])

    def test_operators_change_nothing(self):
        one, other = Letter((1, 9), (20, 30)), Letter((5, 25))
        for made in [one | other, one & other, one - other, one.widened(3), other - one]:
            self.assertIsInstance(made, Letter)
            self.assertEqual([one.runs(), other.runs()], [[(1, 9), (20, 30)], [(5, 25)]])

    def test_results_share_nothing_with_the_operands(self):
        one = Letter((1, 9))
        made = one | Letter()
        made.runs().append((20, 20))
        self.assertEqual([one.runs(), made.runs()], [[(1, 9)], [(1, 9)]])

    def test_equals_nothing_else(self):
        for letter in [Letter((1, 2)), Letter((3, 3))]:
            for value in [[(1, 2)], (1, 2), "1-2", 3, Thing("a", 3), *wrong_values()]:
                self.assertIs(letter == value, False, repr(value))
                self.assertIs(value == letter, False, repr(value))
                self.assertIs(letter != value, True, repr(value))
        self.assertIs(Letter() == [], False)
        self.assertIs(Letter((0, 0)) == 0, False)

    def test_within_by_name(self):
        self.assertIs(Letter((1, 2)).within(other=Letter((0, 5))), True)
        self.assertIs(Letter().within(Letter()), True)
        self.assertIs(Letter((0, 5)).within(Letter((0, 4), (6, 9))), False)


class WidenedTest(unittest.TestCase):
    def test_small_letters(self):
        for numbers in subsets(range(8)):
            for by in range(4):
                wide = {near for number in numbers for near in range(number - by, number + by + 1) if near >= 0}
                self.assertEqual(letter_of(numbers).widened(by).runs(), runs_of(wide))

    def test_at_the_ends(self):
        letter = Letter((3, 3), (GREATEST - 3, GREATEST - 3))
        self.assertEqual(letter.widened(5).runs(), [(0, 8), (GREATEST - 8, GREATEST)])
        self.assertEqual(letter.widened(by=GREATEST).runs(), [(0, GREATEST)])
        self.assertEqual(Letter((0, 0)).widened(GREATEST).runs(), [(0, GREATEST)])
        self.assertEqual(Letter((1, 1)).widened(GREATEST - 2).runs(), [(0, GREATEST - 1)])
        self.assertEqual(Letter().widened(GREATEST).runs(), [])

    def test_wrong_values(self):
        for value in ["5", -1, 10 ** 18, *wrong_values()]:
            for letter in [Letter(), Letter((5, 9))]:
                with self.assertRaises(InvalidNumber) as caught:
                    letter.widened(value)
                self.assertIs(caught.exception.given, value)


class CutTest(unittest.TestCase):
    def test_without_letters(self):
        self.assertEqual(cut(), [(0, GREATEST, ())])
        self.assertEqual(cut(Letter()), [(0, GREATEST, ())])
        self.assertEqual(cut(Letter((0, GREATEST))), [(0, GREATEST, (0,))])

    def test_at_the_ends(self):
        self.assertEqual(cut(Letter((0, 0))), [(0, 0, (0,)), (1, GREATEST, ())])
        self.assertEqual(cut(Letter((GREATEST, GREATEST)), Letter()), [(0, GREATEST - 1, ()), (GREATEST, GREATEST, (0,))])

    def test_same_letter_twice(self):
        letter = Letter((3, 5))
        self.assertEqual(cut(letter, letter), [(0, 2, ()), (3, 5, (0, 1)), (6, GREATEST, ())])

    def test_one_letter_begins_where_another_one_ends(self):
        found = cut(Letter((3, 5)), Letter((6, 9)), Letter((4, 6)))
        self.assertEqual(found, [
            (0, 2, ()), (3, 3, (0,)), (4, 5, (0, 2)), (6, 6, (1, 2)), (7, 9, (1,)), (10, GREATEST, ()),
        ])

    def test_all_triples_of_small_letters(self):
        some = subsets(range(4))
        for triple in product(some, repeat=3):
            places = [tuple(at for at in range(3) if number in triple[at]) for number in range(6)]
            wanted = []
            for number, place in enumerate(places):
                if wanted and wanted[-1][2] == place:
                    wanted[-1] = (wanted[-1][0], number, place)
                else:
                    wanted.append((number, number, place))
            wanted[-1] = (wanted[-1][0], GREATEST, ())
            self.assertEqual(cut(*[letter_of(numbers) for numbers in triple]), wanted)

    def test_many_letters_with_many_runs(self):
        letters = [Letter(*[(at * step, at * step + step // 2) for at in range(400)]) for step in range(2, 42)]
        pieces = cut(*letters)
        self.assertEqual([pieces[0][0], pieces[-1][1]], [0, GREATEST])
        self.assertEqual(gaps_of(pieces), [(high + 1, high) for _, high, _ in pieces[:-1]])
        for low, high, places in pieces[::50]:
            for number in (low, high):
                self.assertEqual(places, tuple(at for at, letter in enumerate(letters) if number in letter))

    def test_returned_list_is_new(self):
        letter = Letter((3, 5))
        cut(letter).clear()
        self.assertEqual(cut(letter), [(0, 2, ()), (3, 5, (0,)), (6, GREATEST, ())])
        self.assertEqual(letter.runs(), [(3, 5)])


if __name__ == "__main__":
    unittest.main()
