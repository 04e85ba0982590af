"""Answerers: their answers fit a list, and leave something open as long as the document says."""

import random
import unittest
from itertools import permutations

from lumplooks.answerers import Answerer
from lumplooks.books import Book
from lumplooks.cases import Case
from lumplooks.errors import NotAThing, NothingLeft, UnknownName
from lumplooks.lumps import fates_after, looks
from lumplooks.seats import Peg, Thing
from tests.helpers import wrong_values
from tests.samples import LETTER
from tests.tables import fitting, is_best, random_cases

BOOK = Book([Thing("a", 1), Thing("b", 2), Thing("c", 3), Thing("d", 4), Peg("p"), Thing("e", 5)], [
    ("mixed", ("a", "b", "c"), (7, 3, 8)), ("given", "d", 7), ("given", "e", 3),
])
CASE = Case(BOOK, LETTER)


class AnswererTest(unittest.TestCase):
    def check(self, answerer, case, tables, states):
        """Everything that an answerer tells, behind answers that these lists fit."""
        self.assertTrue(states)
        self.assertIs(answerer.is_settled(), tables.is_settled(states))
        asked = [name for name, _ in answerer.asked() if tables.fates()[name] == "perhaps"]
        if len(asked) < looks(case):
            self.assertIs(answerer.is_settled(), False)
        self.assertEqual(fates_after(case, *answerer.asked()), tables.fates(states))
        pair = answerer.pair()
        if answerer.is_settled():
            self.assertIsNone(pair)
            return
        self.assertIsInstance(pair, tuple)
        first, second = pair
        for story in pair:
            self.assertTrue(is_best(case, story))
            self.assertIn(frozenset(story.named()), states)
        self.assertTrue((set(first.named()) ^ set(second.named())) & set(case.book.names("thing")))

    def play(self, case, tables, order):
        answerer = Answerer(case)
        states = frozenset(tables.lists)
        self.check(answerer, case, tables, states)
        for at, name in enumerate(order):
            word = answerer(name)
            self.assertIs(word in (True, False), True)
            states = fitting(states, name, word)
            self.check(answerer, case, tables, states)
            self.assertEqual(len(answerer), at + 1)
            for old, old_word in answerer.asked():
                self.assertIs(answerer.answer(old), old_word)
            self.assertEqual([name for name, _ in answerer.asked()], order[:at + 1])
        self.assertIs(answerer.is_settled(), True)

    def test_random_orders(self):
        chance = random.Random(111)
        for case, tables in random_cases(112, 120, 8, 32):
            order = case.book.names("thing")
            chance.shuffle(order)
            self.play(case, tables, order)

    def test_all_orders_of_small_books(self):
        for case, tables in random_cases(113, 40, 4, 16):
            for order in permutations(case.book.names("thing")):
                self.play(case, tables, list(order))

    def test_only_as_many_as_the_looks(self):
        """Things whose fate is not perhaps count for nothing, and the fewest looks do settle everything."""
        for case, tables in random_cases(114, 80, 8, 32):
            fates = case.fates()
            things = case.book.names("thing")
            answerer = Answerer(case)
            for name in [name for name in things if fates[name] != "perhaps"]:
                self.assertIs(answerer(name), fates[name] == "sure")
            self.assertIs(answerer.is_settled(), looks(case) == 0)
            many = 0
            for name in [name for name in things if fates[name] == "perhaps"]:
                if many < looks(case):
                    self.assertIs(answerer.is_settled(), False)
                answerer(name)
                many += 1
            self.assertIs(answerer.is_settled(), True)

    def test_one_book(self):
        answerer = Answerer(case=CASE)
        self.assertEqual([answerer.asked(), len(answerer), repr(answerer)], [[], 0, "Answerer(0 asked)"])
        self.assertEqual([answerer.answer(name="d"), answerer(name="e"), answerer("a")], [True, False, True])
        self.assertEqual([answerer.asked()[:2], repr(answerer)], [[("d", True), ("e", False)], "Answerer(3 asked)"])
        self.assertEqual([answerer.is_settled(), answerer("d"), len(answerer)], [False, True, 3])
        answerer.asked().clear()
        self.assertEqual(len(answerer.asked()), 3)
        answerer("b")
        self.assertEqual([answerer.is_settled(), answerer.pair()], [True, None])

    def test_empty_book(self):
        answerer = Answerer(Case(Book(), LETTER))
        self.assertEqual([answerer.is_settled(), answerer.pair(), len(answerer)], [True, None, 0])

    def test_only_pegs_are_open(self):
        answerer = Answerer(Case(Book([Peg("p"), Thing("a", 1)], [("given", "a", 7)]), LETTER))
        self.assertEqual([answerer.is_settled(), answerer.pair()], [True, None])

    def test_wrong_names(self):
        answerer = Answerer(CASE)
        answerer("a")
        asked = answerer.asked()
        for ask in [answerer.answer, answerer]:
            for value in [*wrong_values(), "x", ("a",)]:
                with self.assertRaises(UnknownName) as caught:
                    ask(value)
                self.assertTrue(caught.exception.name == value)
            with self.assertRaises(NotAThing) as caught:
                ask("p")
            self.assertEqual(caught.exception.name, "p")
        self.assertEqual(answerer.asked(), asked)


class TakeBackTest(unittest.TestCase):
    def test_nothing_left(self):
        answerer = Answerer(CASE)
        with self.assertRaises(NothingLeft):
            answerer.take_back()
        answerer("a")
        answerer("a")
        self.assertIsNone(answerer.take_back())
        with self.assertRaises(NothingLeft):
            answerer.take_back()
        self.assertEqual([answerer.asked(), len(answerer)], [[], 0])

    def test_the_last_thing_that_was_new(self):
        answerer = Answerer(CASE)
        for name in "abda":
            answerer(name)
        answerer.take_back()
        self.assertEqual([name for name, _ in answerer.asked()], ["a", "b"])

    def test_as_if_not_asked(self):
        chance = random.Random(115)
        for case, _ in random_cases(116, 60, 7, 24):
            things = case.book.names("thing")
            answerer = Answerer(case)
            left = []
            for _ in range(12 if things else 0):
                if left and chance.random() < 0.4:
                    answerer.take_back()
                    left.pop()
                else:
                    name = chance.choice(things)
                    answerer(name)
                    left += [name] if name not in left else []
                other = Answerer(case)
                for name in left:
                    other(name)
                self.assertEqual(answerer.asked(), other.asked())
                self.assertEqual([answerer.is_settled(), answerer.pair()], [other.is_settled(), other.pair()])

    def test_two_answerers(self):
        one, other = Answerer(CASE), Answerer(CASE)
        one("a")
        one("b")
        self.assertEqual([len(other), other.is_settled(), len(one)], [0, False, 2])
        other("c")
        one.take_back()
        self.assertEqual([len(other), len(one)], [1, 1])
        self.assertEqual(CASE.fates()["a"], "perhaps")


if __name__ == "__main__":
    unittest.main()
