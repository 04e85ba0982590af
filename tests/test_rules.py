"""Rules for writing, held against all ways that [15] lets, and rules compared by their witnesses."""

import random
import unittest

from lumplooks.books import Book
from lumplooks.cases import Case
from lumplooks.errors import InvalidNumber, InvalidRule
from lumplooks.letters import Letter
from lumplooks.rules import Rule
from lumplooks.seats import Peg, Thing
from tests.helpers import wrong_values
from tests.samples import LETTER, LOOKS, STAYS, great_book, random_book
from tests.tables import random_cases
from tests.ways import all_ways, written

ORDERS = ["any", "timed", "stopped"]
ALL_RULES = [Rule(links, order) for links in [*range(21), None] for order in ORDERS]


def is_covered(other, one):
    """[16] in its own words: whether one rule covers another one."""
    as_many = one.links is None or (other.links is not None and one.links >= other.links)
    earlier = ORDERS.index(one.order) <= ORDERS.index(other.order)
    short = one.order == "timed" and other.order == "any" and other.links is not None and other.links <= 1
    return as_many and (earlier or short)


class RuleTest(unittest.TestCase):
    def test_properties(self):
        rule = Rule()
        self.assertEqual([rule.links, rule.order, repr(rule)], [None, "stopped", "Rule(any number, stopped)"])
        rule = Rule(3, "timed")
        self.assertEqual([rule.links, rule.order, repr(rule)], [3, "timed", "Rule(3, timed)"])
        rule = Rule(order="any", links=0)
        self.assertEqual([rule.links, rule.order, repr(rule)], [0, "any", "Rule(0, any)"])
        self.assertEqual(repr(Rule(20)), "Rule(20, stopped)")
        self.assertEqual(Rule.ORDERS, ("any", "timed", "stopped"))
        self.assertEqual(rule.ORDERS, ("any", "timed", "stopped"))
        for word in ["links", "order"]:
            with self.assertRaises(AttributeError):
                setattr(rule, word, 1)

    def test_equal(self):
        for at, one in enumerate(ALL_RULES):
            for to, other in enumerate(ALL_RULES):
                self.assertIs(one == other, at == to)
            self.assertTrue(one == Rule(one.links, one.order))
        for value in [*wrong_values(), "Rule(any number, stopped)", (None, "stopped")]:
            self.assertIs(Rule() == value, False)

    def test_wrong_links(self):
        for value in wrong_values():
            if value is None or value in ORDERS:
                continue
            for order in ["any", "stopped", "x", None, 5]:
                with self.assertRaises(InvalidNumber) as caught:
                    Rule(value, order)
                self.assertTrue(caught.exception.given == value)
        for value in [21, 22, -1, "3", "any", [3], (3,), 10 ** 18]:
            with self.assertRaises(InvalidNumber) as caught:
                Rule(links=value, order=value)
            self.assertEqual(caught.exception.given, value)

    def test_wrong_orders(self):
        for value in [*wrong_values(), "Any", "timed ", "all", ("any",), ["any"], ("any", "timed", "stopped")]:
            for links in [None, 0, 3, 20]:
                with self.assertRaises(InvalidRule) as caught:
                    Rule(links, value)
                self.assertTrue(caught.exception.given == value)


class WrittenTest(unittest.TestCase):
    def test_random_books(self):
        chance = random.Random(141)
        differences = set()
        for at in range(150):
            book = random_book(chance, 6, 20, [STAYS, LOOKS][at % 2])
            copy = Book(book.seats(), book.records())
            found = []
            for order in ORDERS:
                ways = all_ways(book, LETTER, order)
                for links in [0, 1, 2, 3, 4, 20, None]:
                    wanted = written(book, ways, links)
                    self.assertEqual(Rule(links, order).written(book, LETTER), wanted)
                    found.append(tuple(wanted))
            self.assertEqual(book, copy)
            differences |= {(one, other) for one in range(21) for other in range(21) if found[one] != found[other]}
        # Each order differs from the others, and each number of links from the next one up to 3.
        self.assertTrue({(6, 13), (13, 20), (0, 1), (7, 8), (14, 15), (1, 2), (8, 9), (15, 16)} <= differences)

    def chain(self, hours, looks=()):
        names = "abcdefgh"[:len(hours) + 1]
        return Book([Thing(name, at) for at, name in enumerate(names)], [
            *[("given", name, 7 if name == "a" else 3) for name in names],
            *[("swap", hour, names[at], names[at + 1]) for at, hour in enumerate(hours)], *looks,
        ])

    def test_chains(self):
        rising, falling = self.chain([1, 2, 3]), self.chain([3, 2, 1])
        for links, many in [(0, 1), (1, 2), (2, 3), (3, 4), (4, 4), (None, 4)]:
            for order in ORDERS:
                self.assertEqual(Rule(links, order).written(rising, LETTER), list("abcd"[:many]))
            self.assertEqual(Rule(links, "any").written(falling, LETTER), list("abcd"[:many]))
            self.assertEqual(Rule(links, "timed").written(falling, LETTER), list("abcd"[:min(2, many)]))

    def test_swaps_of_one_hour_are_in_the_order_of_the_records(self):
        self.assertEqual(Rule(None, "timed").written(self.chain([5, 5, 5]), LETTER), list("abcd"))
        book = self.chain([5, 5])
        records = book.records()
        turned = Book(book.seats(), [*records[:3], records[4], records[3]])
        self.assertEqual(Rule(None, "timed").written(turned, LETTER), ["a", "b"])

    def test_one_meeting_is_one_link(self):
        stays = [("stay", name, "hall", 0, 5) for name in "abc"]
        book = Book([Thing("a", 1), Thing("b", 2), Thing("c", 3)], [
            ("given", "a", 7), ("given", "b", 3), ("given", "c", 3), *stays,
        ])
        self.assertEqual([Rule(links, "timed").written(book, LETTER) for links in [0, 1]], [["a"], ["a", "b", "c"]])

    def test_looks_stop_ways(self):
        def told(*looks):
            return Rule().written(self.chain([1, 3, 5], looks), LETTER)
        self.assertEqual(told(), ["a", "b", "c", "d"])
        self.assertEqual(told(("look", 0, "a", 3)), [])
        self.assertEqual(told(("look", 2, "a", 3)), ["b", "c", "d"])
        self.assertEqual(told(("look", 0, "b", 3)), ["a", "b", "c", "d"])
        self.assertEqual(told(("look", 2, "b", 3)), ["a"])
        self.assertEqual(told(("look", 4, "b", 3)), ["a", "c", "d"])
        self.assertEqual(told(("look", 6, "d", 3)), ["a", "b", "c"])
        # A number of the letter stops nothing.
        self.assertEqual(told(("look", 2, "b", 7), ("look", 0, "a", 8)), ["a", "b", "c", "d"])
        # Looks of the hour of a swap are behind it, as the records are.
        self.assertEqual(told(("look", 1, "b", 3)), ["a"])
        self.assertEqual(Rule(None, "timed").written(self.chain([1, 3], [("look", 2, "b", 3)]), LETTER), ["a", "b", "c"])

    def test_beginnings(self):
        seats = [Thing("a", 1), Peg("p"), Thing("b", 2), Thing("c", 3), Thing("d", 4), Thing("e", 5)]
        book = Book(seats, [("mixed", ("p", "b"), (3, 8)), ("mixed", ("c", "d"), (3, 9)), ("given", "a", 5)])
        for order in ORDERS:
            self.assertEqual(Rule(0, order).written(book=book, letter=LETTER), ["b", "e"])
            self.assertEqual(Rule(0, order).written(Book(), LETTER), [])
            self.assertEqual(Rule(0, order).written(book, Letter()), ["e"])

    def test_pegs_lead_on(self):
        book = Book([Thing("a", 1), Peg("p"), Thing("b", 2)], [
            ("given", "a", 3), ("given", "p", 7), ("given", "b", 3), ("swap", 1, "p", "a"), ("swap", 2, "p", "b"),
        ])
        self.assertEqual([Rule(links).written(book, LETTER) for links in [0, 1]], [[], ["a", "b"]])

    def test_great_books(self):
        """More links and earlier orders write to no fewer things."""
        chance = random.Random(142)
        for shops in [1, 4]:
            book = great_book(chance, 120, shops)
            rows = [[Rule(links, order).written(book, LETTER) for links in [*range(21), None]] for order in ORDERS]
            for row in rows:
                for one, other in zip(row, row[1:]):
                    self.assertTrue(set(one) <= set(other))
            for one, other in zip(rows, rows[1:]):
                for wide, narrow in zip(one, other):
                    self.assertTrue(set(narrow) <= set(wide))
            self.assertEqual(rows[0][-1], rows[0][20])


class CaseTest(unittest.TestCase):
    def test_misses_and_needless(self):
        missed = needed = facts = 0
        for case, _ in random_cases(143, 150, 7, 20):
            for rule in [Rule(), Rule(0), Rule(1, "timed"), Rule(None, "any"), Rule(2, "any")]:
                written, wanted = rule.written(case.book, case.letter), case.write()
                self.assertEqual(rule.misses(case), [name for name in wanted if name not in written])
                self.assertEqual(rule.needless(case=case), [name for name in written if name not in wanted])
                missed += len(rule.misses(case))
                needed += len(rule.needless(case))
            if case.least == 0:
                self.assertEqual(Rule().misses(case=case), [])
                facts += 1
        self.assertGreater(min(missed, needed, facts), 30)

    def test_one_case(self):
        book = Book([Thing("a", 1), Thing("b", 2)], [("given", "a", 7), ("given", "b", 3), ("swap", 1, "a", "b")])
        case = Case(book, LETTER)
        self.assertEqual([Rule().misses(case), Rule().needless(case)], [[], ["a"]])
        self.assertEqual([Rule(0).misses(case), Rule(0).needless(case)], [["b"], ["a"]])


class CoversTest(unittest.TestCase):
    def test_all_pairs(self):
        for one in ALL_RULES:
            for other in ALL_RULES:
                wanted = is_covered(other, one)
                self.assertIs(one.covers(other), wanted)
                found = one.witness(other)
                self.assertIs(found is None, wanted)
                if found is not None:
                    self.assertIsInstance(found, tuple)
                    book, letter, name = found
                    self.assertIn(name, other.written(book, letter))
                    self.assertNotIn(name, one.written(book, letter))
                    self.assertIsInstance(book, Book)
                    self.assertIsInstance(letter, Letter)

    def test_by_name(self):
        self.assertIs(Rule(2).covers(other=Rule(1)), True)
        self.assertIsNone(Rule(2).witness(other=Rule(1)))

    def test_covered_in_random_books(self):
        chance = random.Random(144)
        rules = [Rule(links, order) for links in [0, 1, 2, 3, None] for order in ORDERS]
        for at in range(100):
            book = random_book(chance, 6, 20, [STAYS, LOOKS][at % 2])
            written = [set(rule.written(book, LETTER)) for rule in rules]
            for one, mine in zip(rules, written):
                for other, names in zip(rules, written):
                    if one.covers(other):
                        self.assertTrue(names <= mine)


if __name__ == "__main__":
    unittest.main()
