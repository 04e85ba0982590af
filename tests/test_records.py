"""Records that are wrong by themselves, and records that clash with those before them."""

import unittest
from itertools import permutations

from lumplooks.books import Book
from lumplooks.errors import Clash, InvalidRecord
from lumplooks.seats import Peg, Thing
from tests.helpers import GREATEST, wrong_values

SEATS = [Thing("a", 1), Thing("b", 2), Thing("c", 3), Peg("p"), Peg("q")]
BOOK = Book(SEATS)

RIGHT = [
    ("given", "a", 0), ("given", "p", GREATEST),
    ("mixed", ("a", "b"), (7, 7)), ("mixed", ("q", "a", "p"), (0, GREATEST, 5)),
    ("mixed", ("a", "b", "c", "p", "q"), (1, 2, 3, 4, 5)),
    ("stay", "a", "hall", 0, 1), ("stay", "p", "a", 0, 10 ** 6), ("stay", "q", "abcdefgh", 10 ** 6 - 1, 10 ** 6),
    ("swap", 0, "a", "b"), ("swap", 10 ** 6, "p", "q"), ("swap", 5, "q", "a"),
    ("look", 0, "a", 0), ("look", 10 ** 6, "c", GREATEST),
]
WRONG = [
    ("given",), ("given", "a"), ("given", "a", 5, 5), ("given", "x", 5), ("given", 5, "a"), ("given", "a", "5"),
    ("given", "a", -1), ("given", "a", GREATEST + 1), ("given", "a", True), ("given", ("a",), 5), ["given", "a", 5],
    ("given", ("a", "b"), (5, 6)), ("Given", "a", 5), ("gave", "a", 5), ("", "a", 5), (("given", "a", 5),),
    ("mixed",), ("mixed", ("a", "b")), ("mixed", ("a", "b"), (5, 6), ()), ("mixed", (), ()), ("mixed", ("a",), (5,)),
    ("mixed", ("a", "a"), (5, 6)), ("mixed", ("a", "b", "a"), (5, 6, 7)), ("mixed", ("a", "b"), (5,)),
    ("mixed", ("a", "b"), (5, 6, 7)), ("mixed", ("a", "x"), (5, 6)), ("mixed", ("x", "a"), (5, 6)),
    ("mixed", ("a", "b"), (5, True)), ("mixed", ("a", "b"), (-1, 5)), ("mixed", ("a", "b"), ("5", 6)),
    ("mixed", ["a", "b"], (5, 6)), ("mixed", ("a", "b"), [5, 6]), ("mixed", "ab", (5, 6)), ("mixed", "a", 5),
    ["mixed", ("a", "b"), (5, 6)], ("mixed", (5, 6), ("a", "b")), ("mixed", (["a"], ["b"]), (5, 6)),
    ("stay",), ("stay", "a", "hall", 0), ("stay", "a", "hall", 0, 1, 2), ("stay", "a", "hall", 5, 5),
    ("stay", "a", "hall", 6, 5), ("stay", "x", "hall", 0, 1), ("stay", "a", "Hall", 0, 1), ("stay", "a", "", 0, 1),
    ("stay", "a", "abcdefghi", 0, 1), ("stay", "a", "hall", -1, 5), ("stay", "a", "hall", 0, 10 ** 6 + 1),
    ("stay", "a", "hall", False, 1), ("stay", "a", "hall", 0, True), ("stay", "a", "hall", "0", "1"),
    ("stay", "a", 5, 0, 1), ("stay", 5, "hall", 0, 1), ["stay", "a", "hall", 0, 1], ("stay", 0, 1, "a", "hall"),
    ("stay", "hall", "a", 0, 1), ("stay", "a", "hall", 0, "1"), ("stay", "a", "hall", None, 1),
    ("swap",), ("swap", 5, "a"), ("swap", 5, "a", "b", "c"), ("swap", 5, "a", "a"), ("swap", 5, "p", "p"),
    ("swap", 5, "a", "x"), ("swap", 5, "x", "a"), ("swap", -1, "a", "b"), ("swap", 10 ** 6 + 1, "a", "b"),
    ("swap", True, "a", "b"), ("swap", "5", "a", "b"), ("swap", "a", "b", 5), ("swap", 5, ("a", "b")),
    ["swap", 5, "a", "b"], ("swap", 5, "a", 5),
    ("look",), ("look", 5, "a"), ("look", 5, "a", 5, 5), ("look", 5, "p", 5), ("look", 5, "x", 5), ("look", -1, "a", 5),
    ("look", 10 ** 6 + 1, "a", 5), ("look", False, "a", 5), ("look", 5, "a", -1), ("look", 5, "a", GREATEST + 1),
    ("look", 5, "a", False), ("look", 5, "a", "5"), ("look", "a", 5, 5), ["look", 5, "a", 5], ("look", "5", "a", 5),
    (5,), ("a",), ("thing", "a", 1), ("peg", "p"), ("meeting", "hall", 0, 1, ("a", "b")), (None, "a", 5),
    (True, "a", 5), (("given",), "a", 5), (["given"], "a", 5), ("record", ("given", "a", 5)), SEATS[0], BOOK, "given",
]


class ByItselfTest(unittest.TestCase):
    def wrong(self, records, at):
        with self.assertRaises(InvalidRecord) as caught:
            Book(SEATS, records)
        self.assertEqual(caught.exception.at, at, records)

    def test_right_records(self):
        for record in RIGHT:
            self.assertEqual(Book(SEATS, [record]).records(), [record])
            self.assertEqual(BOOK.with_record(record).records(), [record])

    def test_wrong_records(self):
        looks = [("look", at, "a", at) for at in range(4)]
        for record in [5, *wrong_values(), *WRONG]:
            self.wrong([record], 0)
            self.wrong((*looks, record), 4)
            self.wrong([*looks[:2], record, *looks, record], 2)

    def test_with_wrong_record(self):
        looks = [("look", at, "a", at) for at in range(3)]
        for many in range(4):
            book = Book(SEATS, looks[:many])
            for record in [5, *wrong_values(), *WRONG]:
                with self.assertRaises(InvalidRecord) as caught:
                    book.with_record(record)
                self.assertEqual(caught.exception.at, many)
                self.assertEqual(book, Book(SEATS, looks[:many]))

    def test_wrong_values_in_each_place(self):
        for record in RIGHT:
            for at in range(len(record)):
                for value in wrong_values():
                    # The numbers of a record of mixed parts are a tuple, and some of the values are such tuples.
                    if record[0] != "mixed" or at < 2 or not isinstance(value, tuple):
                        self.wrong([(*record[:at], value, *record[at + 1:])], 0)

    def test_wrong_values_among_mixed_names_and_numbers(self):
        for value in wrong_values():
            self.wrong([("mixed", ("a", value), (5, 6))], 0)
            self.wrong([("mixed", (value, "a"), (5, 6))], 0)
            self.wrong([("mixed", ("a", "b"), (5, value))], 0)
            self.wrong([("mixed", ("a", "b"), (value, 5))], 0)

    def test_lists_instead_of_tuples(self):
        for record in RIGHT:
            self.wrong([list(record)], 0)

    def test_names_of_seats_of_another_book(self):
        for record in RIGHT:
            with self.assertRaises(InvalidRecord):
                Book([Thing("z", 1), Peg("y")], [record])

    def test_a_look_is_at_a_thing(self):
        Book([Thing("p", 1)], [("look", 5, "p", 5)])
        with self.assertRaises(InvalidRecord):
            Book([Peg("p")], [("look", 5, "p", 5)])


class ClashTest(unittest.TestCase):
    def clash(self, records, at):
        """By Book and by with_record."""
        with self.assertRaises(Clash) as caught:
            Book(SEATS, records)
        self.assertEqual(caught.exception.at, at, records)
        book = Book(SEATS, records[:at])
        with self.assertRaises(Clash) as caught:
            book.with_record(records[at])
        self.assertEqual(caught.exception.at, at, records)
        self.assertEqual(book, Book(SEATS, records[:at]))

    def test_tellings_of_one_beginning(self):
        tellings = [
            ("given", "a", 5), ("given", "a", 6), ("mixed", ("a", "b"), (5, 6)), ("mixed", ("c", "p", "a"), (5, 6, 7)),
        ]
        for one, other in [*permutations(tellings, 2), *[(telling, telling) for telling in tellings]]:
            self.clash([one, other], 1)
            self.clash([one, ("look", 1, "a", 5), ("given", "q", 5), other, other], 3)

    def test_tellings_of_other_beginnings(self):
        Book(SEATS, [("given", "a", 5), ("given", "b", 5), ("mixed", ("c", "p"), (5, 5)), ("given", "q", 5)])
        Book(SEATS, [("mixed", ("a", "b"), (5, 6)), ("mixed", ("c", "p"), (5, 6)), ("given", "q", 5)])
        self.clash([("mixed", ("a", "b"), (5, 6)), ("mixed", ("c", "p"), (5, 6)), ("mixed", ("q", "p"), (5, 6))], 2)

    def test_stays_that_overlap(self):
        first = ("stay", "a", "hall", 10, 20)
        for start, end in [(10, 20), (9, 11), (19, 21), (12, 15), (5, 25), (10, 11), (19, 20), (5, 20), (10, 25)]:
            for shop in ["hall", "yard"]:
                other = ("stay", "a", shop, start, end)
                self.clash([first, other], 1)
                self.clash([other, first], 1)
                self.clash([("stay", "a", "yard", 0, 3), first, ("stay", "b", "hall", 12, 15), other, other], 3)

    def test_stays_that_touch_or_lie_apart(self):
        first = ("stay", "a", "hall", 10, 20)
        for start, end in [(5, 10), (20, 25), (0, 9), (21, 10 ** 6), (9, 10), (20, 21)]:
            for shop in ["hall", "yard"]:
                other = ("stay", "a", shop, start, end)
                self.assertEqual(Book(SEATS, [first, other]).records(), [first, other])
                self.assertEqual(Book(SEATS, [other]).with_record(first).records(), [other, first])

    def test_stays_of_other_seats(self):
        stays = [("stay", name, "hall", 10, 20) for name in "abcpq"]
        self.assertEqual(Book(SEATS, stays).records(), stays)

    def test_equal_looks_and_swaps(self):
        records = [("look", 5, "a", 5), ("look", 5, "a", 5), ("look", 5, "a", 6), *[("swap", 5, "a", "b")] * 3]
        self.assertEqual(Book(SEATS, records).records(), records)
        self.assertEqual(Book(SEATS, records[:1]).with_record(records[1]).records(), records[:2])

    def test_the_first_clash_counts(self):
        stays = [("stay", "a", "hall", 0, 5), ("stay", "a", "hall", 5, 9)]
        self.clash([*stays, ("given", "a", 1), ("stay", "a", "hall", 4, 6), ("given", "a", 1)], 3)
        self.clash([*stays, ("given", "a", 1), ("given", "a", 1), ("stay", "a", "hall", 4, 6)], 3)


if __name__ == "__main__":
    unittest.main()
