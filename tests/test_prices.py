import random
import unittest
from itertools import combinations, product

from lumplooks.books import Book
from lumplooks.letters import Letter
from lumplooks.prices import Prices
from lumplooks.seats import Peg, Thing
from tests.helpers import nested, wrong_values
from tests.samples import LETTER, least_sum, random_book

SEATS = [Thing("b", 1), Peg("a"), Thing("c", 2)]


def local_least(costs):
    """The least of the costs of some ways, each a sum."""
    return min(sum(cost) for cost in costs)


def part_costs(book, letter, step, before, after):
    """The costs of all ways through the seats of a step: pairs of who has a named part before and after it."""
    weight = len(book.seats()) + 1
    if step[0] == "look":
        wrong = {True: weight, False: 0} if step[3] in letter else {True: 0, False: weight}
        return [[wrong[True]], [wrong[False], before[step[2]], -after[step[2]]]]
    names = step[4] if step[0] == "meeting" else step[2:]
    ways = []
    for one in range(len(names) + 1):
        for some, others in product(combinations(names, one), repeat=2):
            cost = [*[before[name] for name in some], *[-after[name] for name in others]]
            if step[0] == "meeting":
                ways.append(cost)
            elif one != 1 or some != others:
                ways.append(cost)
            else:
                ways.append([*cost, weight])
    return ways


def bound_by_ways(prices, letter, counted=(), sign=0):
    """The bound, with each least value taken over all ways that [11] means."""
    book = prices.book
    weight = len(book.seats()) + 1
    rows = [dict(zip(book.names(), row)) for row in prices.rows()]
    total = 0
    free = set(book.names())
    for record in book.records():
        if record[0] == "given":
            is_in = record[2] in letter
            total += local_least([[weight if is_in else 0], [0 if is_in else weight, -rows[0][record[1]]]])
            free -= {record[1]}
        elif record[0] == "mixed":
            many = sum(number in letter for number in record[2])
            total += local_least([[-rows[0][name] for name in some] for some in combinations(record[1], many)])
            free -= set(record[1])
    total += sum(local_least([[], [-rows[0][name]]]) for name in free)
    for step, before, after in zip(book.steps(), rows, rows[1:]):
        total += local_least(part_costs(book, letter, step, before, after))
        inside = step[4] if step[0] == "meeting" else step[2:]
        others = [name for name in book.names() if name not in inside]
        total += sum(local_least([[], [before[name], -after[name]]]) for name in others)
    for name in book.names():
        total += local_least([[], [rows[-1][name], sign if name in counted else 0]])
    return total


def random_prices(chance, book, size):
    return Prices(book, [[chance.randint(-size, size) for name in book.names()] for at in range(len(book.steps()) + 1)])


class ToldTest(unittest.TestCase):
    def setUp(self):
        self.book = Book(SEATS, [("look", 5, "b", 7)])

    def test_book(self):
        prices = Prices(self.book, [])
        self.assertIs(prices.book, self.book)
        with self.assertRaises(AttributeError):
            prices.book = self.book

    def test_rows(self):
        for rows in [[], [[]], [[1, -2, 10 ** 40], [0]], [5, [1], "ab", None], [[[1]], [True]]]:
            self.assertEqual(Prices(self.book, rows).rows(), rows)
        self.assertEqual(Prices(prices=[[1]], book=self.book).rows(), [[1]])

    def test_tuples_count_as_lists_but_not_deeper_ones(self):
        prices = Prices(self.book, ((1, 2), [3], (), (4, (5, 6), [(7,)])))
        self.assertEqual(prices.rows(), [[1, 2], [3], [], [4, (5, 6), [(7,)]]])
        self.assertEqual(Prices(self.book, ()).rows(), [])

    def test_what_is_no_list_is_told_itself(self):
        for value in [5, "ab", *wrong_values()]:
            if not isinstance(value, (list, tuple)):
                self.assertIs(Prices(self.book, value).rows(), value)

    def test_copies_both_ways(self):
        inner, deep, shut = [1], [2], [3]
        rows = [inner, [deep], [(shut, 5)]]
        prices = Prices(self.book, rows)
        rows.append([4])
        for value in [inner, deep, shut]:
            value.append(9)
        self.assertEqual(prices.rows(), [[1], [[2]], [([3], 5)]])
        told = prices.rows()
        told[0][0] = 9
        told[1][0].append(9)
        told[2][0][0].append(9)
        told.clear()
        self.assertEqual(prices.rows(), [[1], [[2]], [([3], 5)]])

    def test_repr(self):
        for value in [5, "ab", "abcd", *wrong_values()]:
            if not isinstance(value, (list, tuple)):
                self.assertEqual(repr(Prices(self.book, value)), "Prices(0 states)")
        for many in range(4):
            self.assertEqual(repr(Prices(self.book, [[1]] * many)), f"Prices({many} states)")
            self.assertEqual(repr(Prices(self.book, ("a",) * many)), f"Prices({many} states)")

    def test_whole(self):
        for rows in [
            [[0, 0, 0], [0, 0, 0]], [[1, -2, 3], [10 ** 40, -(10 ** 40), 5]], ((1, 2, 3), (4, 5, 6)), [(1, 2, 3), [4, 5, 6]],
        ]:
            self.assertIs(Prices(self.book, rows).is_whole(), True)
        self.assertIs(Prices(Book(), [[]]).is_whole(), True)
        self.assertIs(Prices(Book(SEATS), [[1, 2, 3]]).is_whole(), True)

    def test_not_whole(self):
        right = [1, 2, 3]
        for rows in [
            [], [right], [right, right, right], [right, []], [right, [1, 2]], [right, [1, 2, 3, 4]], [[1, 2], right],
            [[1, 2, 3, 4], right], [[[1, 2, 3]], right], [[1, 2, [3]], right], 5, "abc", None, ["abc", right], right,
        ]:
            self.assertIs(Prices(self.book, rows).is_whole(), False, rows)
        for value in ["5", (5,), *wrong_values()]:
            self.assertIs(Prices(self.book, value).is_whole(), False)
            if value != (5, 9, 9):
                self.assertIs(Prices(self.book, [right, value]).is_whole(), False, value)
                self.assertIs(Prices(self.book, [value, right]).is_whole(), False, value)
            if not isinstance(value, int) or isinstance(value, bool):
                for at in range(3):
                    wrong = [*right[:at], value, *right[at + 1:]]
                    self.assertIs(Prices(self.book, [right, wrong]).is_whole(), False)
                    self.assertIs(Prices(self.book, [wrong, right]).is_whole(), False)
        self.assertIs(Prices(Book(), []).is_whole(), False)
        self.assertIs(Prices(Book(), [[1]]).is_whole(), False)
        self.assertIs(Prices(self.book, nested(4, 5)).is_whole(), False)

    def test_great_integers_are_whole(self):
        for price in [-1, 0, 10 ** 18, -(10 ** 39), 10 ** 60]:
            self.assertIs(Prices(Book(SEATS), [[price, price, price]]).is_whole(), True)


class BoundTest(unittest.TestCase):
    def bound(self, records, rows, letter=LETTER, **more):
        prices = Prices(Book(SEATS, records), rows)
        self.assertTrue(prices.is_whole())
        bound = prices.bound(letter, **more)
        self.assertEqual(bound, bound_by_ways(prices, letter, **more))
        return bound

    # In the tests below K is 4; a price of 0 adds nothing, and what is left is told with each one.
    def test_given_in_the_letter(self):
        for price, bound in [(-9, 4), (-4, 4), (-3, 3), (0, 0), (1, -1), (9, -9)]:
            self.assertEqual(self.bound([("given", "a", 7)], [[0, price, 0]]), bound + min(0, price))

    def test_given_not_in_the_letter(self):
        for price, bound in [(-9, 0), (0, 0), (4, 0), (5, -1), (9, -5)]:
            self.assertEqual(self.bound([("given", "a", 9)], [[0, price, 0]]), bound + min(0, price))

    def test_mixed(self):
        records = [("mixed", ("a", "b", "c"), (7, 5, 8))]
        self.assertEqual(self.bound(records, [[3, 1, 2]]), -5)
        self.assertEqual(self.bound(records, [[-3, -1, -2]]), 3 - 6)
        self.assertEqual(self.bound(records, [[3, 1, 2]], Letter()), 0)
        self.assertEqual(self.bound(records, [[3, 1, 2]], Letter((5, 8))), -6)
        self.assertEqual(self.bound([("mixed", ("a", "b"), (7, 7))], [[3, 1, 2]]), -4 - 2)

    def test_other_seats_at_the_beginning(self):
        self.assertEqual(self.bound([], [[3, 1, 2]]), -6)
        self.assertEqual(self.bound([], [[-3, -1, -2]]), -6)
        self.assertEqual(self.bound([], [[3, -1, 0]]), -4)

    def test_meeting(self):
        records = [("stay", "a", "hall", 0, 5), ("stay", "b", "hall", 0, 5)]
        self.assertEqual(self.bound(records, [[0, 0, 0], [1, 2, 0]]), -3)
        self.assertEqual(self.bound(records, [[1, 2, 0], [0, 0, 0]]), -3)
        self.assertEqual(self.bound(records, [[-1, 4, 0], [3, 0, 0]]), -4 - 4)
        self.assertEqual(self.bound(records, [[5, 9, 0], [9, 5, 0]]), -14 - 4)

    def test_look(self):
        for number, before, after, bound in [
            (7, 0, 0, 0), (7, 3, 0, 3), (7, 4, 0, 4), (7, 5, 0, 4), (7, 0, 3, -3), (7, 9, 2, 4),
            (5, 0, 0, 0), (5, 3, 0, 0), (5, 0, 3, 0), (5, 0, 4, 0), (5, 0, 5, -1), (5, 2, 9, -3),
        ]:
            rows = [[before, 0, 0], [after, 0, 0]]
            self.assertEqual(self.bound([("look", 5, "b", number)], rows), bound - before)

    def test_swap(self):
        for before, after, bound in [
            ((0, 0), (0, 0), 0), ((1, 2), (2, 1), 0), ((1, 2), (1, 2), -1), ((0, 0), (3, 5), -8), ((3, 5), (0, 0), 0),
            ((0, 0), (0, 5), -5), ((-9, 5), (0, 0), -9), ((-3, -5), (0, 0), -8),
            # If a swap is not done, which costs K, a price after it can make up for that.
            ((0, 9), (3, 0), 0), ((0, 9), (5, 0), -1), ((0, 9), (9, 0), -5), ((9, 0), (0, 9), -5), ((2, 9), (9, 0), -3),
        ]:
            others = sum([min(0, -price) for price in before]) + sum([min(0, price) for price in after])
            rows = [[before[0], 0, before[1]], [after[0], 0, after[1]]]
            self.assertEqual(self.bound([("swap", 5, "b", "c")], rows), bound + others, rows)
            self.assertEqual(self.bound([("swap", 5, "c", "b")], rows), bound + others, rows)

    def test_seats_that_do_not_stand_in_a_step(self):
        self.assertEqual(self.bound([("look", 5, "b", 7)], [[0, 3, 9], [0, 5, 6]]), -3 - 9 - 2)
        self.assertEqual(self.bound([("swap", 5, "b", "a")], [[0, 0, 0], [0, 0, 6]]), -6)

    def test_last_prices(self):
        self.assertEqual(self.bound([], [[-1, 2, -3]]), -4 - 2)
        for sign, bound in [(0, -6), (1, -4), (-1, -8)]:
            self.assertEqual(self.bound([], [[-1, 2, -3]], counted=["b", "a", "c"], sign=sign), bound)
        self.assertEqual(self.bound([], [[0, 0, 0]], counted=["a", "c"], sign=-1), -2)
        self.assertEqual(self.bound([], [[0, 0, 0]], counted=("c",), sign=-1), -1)
        self.assertEqual(self.bound([], [[0, 0, 0]], counted=["a", "c"], sign=1), 0)
        self.assertEqual(self.bound([], [[0, 0, 0]], counted=[], sign=-1), 0)

    def test_keywords_and_defaults(self):
        prices = Prices(Book(SEATS, [("given", "a", 7)]), [[0, -1, 0]])
        self.assertEqual(prices.bound(LETTER), 0)
        self.assertEqual(prices.bound(letter=LETTER, sign=1), 0)
        self.assertEqual(prices.bound(LETTER, counted=["a"]), 0)
        self.assertEqual(prices.bound(LETTER, counted=["a"], sign=1), 1)
        with self.assertRaises(TypeError):
            prices.bound(LETTER, ["a"], 1)

    def test_counted_names_are_not_changed(self):
        counted = ["c", "a"]
        prices = Prices(Book(SEATS), [[0, 0, 0]])
        self.assertEqual([prices.bound(LETTER, counted=counted, sign=-1) for _ in range(2)], [-2, -2])
        self.assertEqual([counted, prices.rows()], [["c", "a"], [[0, 0, 0]]])

    def test_random_bounds(self):
        chance = random.Random(22)
        for size in [1, 3, 5, 20, 10 ** 20]:
            for _ in range(150):
                book = random_book(chance, 4, 20)
                prices = random_prices(chance, book, size)
                counted = chance.sample(book.names(), chance.randint(0, len(book)))
                for sign in [-1, 0, 1]:
                    bound = prices.bound(LETTER, counted=counted, sign=sign)
                    self.assertEqual(bound, bound_by_ways(prices, LETTER, counted, sign), (book.records(), prices.rows()))

    def test_no_story_has_less(self):
        chance = random.Random(23)
        for _ in range(120):
            book = random_book(chance, 3, 9)
            counted = chance.sample(book.names(), chance.randint(0, len(book)))
            for sign in [-1, 0, 1]:
                least = least_sum(book, LETTER, counted, sign)
                for size in [0, 1, 2, 4, 50, 10 ** 20]:
                    prices = random_prices(chance, book, size)
                    self.assertLessEqual(prices.bound(LETTER, counted=counted, sign=sign), least)

    def test_some_prices_reach_the_least(self):
        for seats, records in [
            ([Thing("a", 1)], [("given", "a", 7), ("look", 5, "a", 5)]),
            ([Thing("a", 1)], [("given", "a", 7), ("look", 5, "a", 5), ("look", 6, "a", 4)]),
            ([Thing("a", 1), Peg("b")], [("given", "a", 7), ("given", "b", 5), ("swap", 5, "a", "b")]),
            ([Thing("a", 1), Peg("b")], [("mixed", ("a", "b"), (7, 5)), ("look", 5, "a", 7)]),
            ([Thing("a", 1), Peg("b")], [("given", "a", 7), ("given", "b", 5), *[
                ("stay", name, "hall", 0, 5) for name in "ab"
            ]]),
        ]:
            book = Book(seats, records)
            many = len(seats) * (len(book.steps()) + 1)
            rows = list(product(range(-4, 4), repeat=many))
            made = [Prices(book, [row[at:at + len(seats)] for at in range(0, many, len(seats))]) for row in rows]
            for counted, sign in [([], 0), (["a"], 1), (["a"], -1)]:
                best = max(prices.bound(LETTER, counted=counted, sign=sign) for prices in made)
                self.assertEqual(best, least_sum(book, LETTER, counted, sign), (records, counted, sign))


if __name__ == "__main__":
    unittest.main()
