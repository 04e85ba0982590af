"""What a further record, one record less or another letter changes, held against the fates of small books."""

import random
import unittest

from lumplooks.books import Book
from lumplooks.cases import Case
from lumplooks.errors import Clash, InvalidRecord, LumpError, TooMany
from lumplooks.letters import Letter
from lumplooks.more import comes, goes, spare, turned
from lumplooks.seats import Peg, Thing
from tests.helpers import wrong_values
from tests.samples import LETTER, LOOKS, STAYS, random_book, random_record
from tests.tables import Tables

BOOK = Book([Thing("a", 1), Thing("b", 2), Peg("p"), Thing("c", 3)], [
    ("given", "a", 7), ("given", "b", 3), ("given", "c", 3), ("stay", "a", "hall", 0, 2), ("stay", "b", "hall", 1, 2),
])
CASE = Case(BOOK, LETTER)


def written(book, letter=LETTER):
    fates = Tables(book, letter).fates()
    return [name for name in book.names("thing") if fates[name] != "never"]


def minus(one, other):
    return [name for name in one if name not in other]


class ComesTest(unittest.TestCase):
    def test_one_book(self):
        look = ("look", 3, "b", 7)
        self.assertEqual([comes(CASE, look), goes(CASE, look)], [[], ["a"]])
        swap = ("swap", 3, "c", "b")
        self.assertEqual([comes(CASE, swap), goes(CASE, swap)], [["c"], ["b"]])
        self.assertEqual([comes(CASE, ("stay", "c", "hall", 0, 5)), goes(CASE, ("stay", "c", "hall", 0, 5))], [["c"], []])
        self.assertEqual([comes(case=CASE, record=swap), goes(record=look, case=CASE)], [["c"], ["a"]])
        self.assertEqual(CASE.book.records(), BOOK.records())

    def test_random_records(self):
        chance = random.Random(121)
        came, went, facts = 0, 0, 0
        for _ in range(400):
            book = random_book(chance, 6, 16, chance.choice([STAYS, LOOKS]))
            record = random_record(chance, book.seats(), LOOKS)
            case = Case(book, LETTER)
            try:
                further = book.with_record(record)
            except LumpError as wrong:
                for ask in [comes, goes]:
                    with self.assertRaises(wrong.__class__) as caught:
                        ask(case, record)
                    self.assertEqual(caught.exception.at, len(book.records()))
                continue
            now, then = written(book), written(further)
            self.assertEqual([comes(case, record), goes(case, record)], [minus(then, now), minus(now, then)])
            came += len(comes(case, record))
            went += len(goes(case, record))
            if record[0] not in ("swap", "stay") and Tables(further, LETTER).least == case.least:
                facts += 1
                self.assertEqual(comes(case, record), [])
        self.assertGreater(min(came, went, facts), 20)

    def test_errors(self):
        wrong = [("given", "x", 7), ("look", 3, "p", 7), ["look", 3, "a", 7], ("look", 3, "a"), ("look", -1, "a", 7)]
        for ask in [comes, goes]:
            for record in [*wrong_values(), *wrong]:
                with self.assertRaises(InvalidRecord) as caught:
                    ask(CASE, record)
                self.assertEqual(caught.exception.at, 5)
            for record in [("given", "a", 7), ("stay", "a", "yard", 1, 3), ("mixed", ("p", "b"), (7, 3))]:
                with self.assertRaises(Clash) as caught:
                    ask(CASE, record)
                self.assertEqual(caught.exception.at, 5)

    def test_full_books(self):
        full = Book([Thing("a", 1)], [("look", 0, "a", 7)] * 119 + [("given", "a", 7)])
        for ask in [comes, goes]:
            with self.assertRaises(TooMany) as caught:
                ask(Case(full, LETTER), ("look", 5, "a", 7))
            self.assertEqual(caught.exception.most, 120)
            with self.assertRaises(Clash) as caught:
                ask(Case(full, LETTER), ("given", "a", 3))
            self.assertEqual(caught.exception.at, 120)
            with self.assertRaises(InvalidRecord) as caught:
                ask(Case(full, LETTER), None)
            self.assertEqual(caught.exception.at, 120)


class SpareTest(unittest.TestCase):
    def test_random_books(self):
        chance = random.Random(122)
        many = 0
        for _ in range(100):
            book = random_book(chance, 5, 12, chance.choice([STAYS, LOOKS]))
            lists = Tables(book, LETTER).lists
            wanted = [at for at in range(len(book.records())) if Tables(book.without(at), LETTER).lists == lists]
            self.assertEqual(spare(Case(book, LETTER)), wanted)
            many += 0 < len(wanted) < len(book.records())
        self.assertGreater(many, 30)

    def test_limits(self):
        self.assertEqual([spare(CASE), spare(case=CASE, limit=4)], [[], []])
        for limit in [1, 3]:
            with self.assertRaises(TooMany) as caught:
                spare(CASE, limit=limit)
            self.assertEqual(caught.exception.most, limit)
        with self.assertRaises(TypeError):
            spare(CASE, 4)

    def test_more_lists_without_a_record(self):
        """Ten seats have 1024 lists without the record, which is too many; a second record of the same is spare."""
        seats = [Thing(name, at) for at, name in enumerate("abcdefghij")]
        with self.assertRaises(TooMany) as caught:
            spare(Case(Book(seats), LETTER))
        self.assertEqual(caught.exception.most, 1000)
        self.assertEqual(spare(Case(Book(seats, [("given", "a", 7)]), LETTER)), [])
        twice = [("given", "a", 7), ("look", 5, "a", 7), ("stay", "b", "hall", 1, 2)]
        self.assertEqual(spare(Case(Book(seats, twice), LETTER)), [0, 1, 2])
        self.assertEqual(spare(Case(Book(seats, twice), LETTER), limit=512), [0, 1, 2])
        with self.assertRaises(TooMany) as caught:
            spare(Case(Book(seats, twice), LETTER), limit=511)
        self.assertEqual(caught.exception.most, 511)

    def test_empty_book(self):
        self.assertEqual(spare(Case(Book(), LETTER), limit=1), [])


class TurnedTest(unittest.TestCase):
    def test_one_book(self):
        self.assertEqual(turned(BOOK, Letter((7, 7)), Letter((3, 3))), (["c"], []))
        self.assertEqual(turned(book=BOOK, letter=Letter((3, 3)), other=Letter((7, 7))), ([], ["c"]))
        self.assertEqual(turned(BOOK, LETTER, LETTER), ([], []))
        self.assertEqual(turned(Book(), LETTER, Letter()), ([], []))

    def test_random_books(self):
        chance = random.Random(123)
        several = 0
        for _ in range(150):
            book = random_book(chance, 6, 16, chance.choice([STAYS, LOOKS]))
            letters = [Letter((low, low + chance.randint(0, 2))) for low in chance.sample(range(5, 9), 2)]
            copy = Book(book.seats(), book.records())
            one, other = [written(book, letter) for letter in letters]
            found = turned(book, *letters)
            self.assertIsInstance(found, tuple)
            self.assertEqual(found, (minus(other, one), minus(one, other)))
            self.assertEqual(book, copy)
            several += found != ([], [])
        self.assertGreater(several, 50)


if __name__ == "__main__":
    unittest.main()
