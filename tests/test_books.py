import unittest

from lumplooks.books import Book
from lumplooks.errors import (
    Clash, DuplicateName, DuplicateNumber, InvalidNumber, InvalidRecord, InvalidSeat, TooMany, UnknownName,
)
from lumplooks.letters import Letter
from lumplooks.seats import Peg, Seat, Thing
from tests.helpers import wrong_values

SEATS = [Thing("a", 5), Peg("hook"), Thing("b", 0), Peg("c")]
RECORDS = [
    ("look", 4, "a", 7), ("given", "a", 7), ("swap", 3, "hook", "b"), ("mixed", ("b", "c"), (7, 7)),
    ("stay", "a", "hall", 2, 5), ("swap", 5, "a", "c"), ("look", 5, "b", 8),
]


def many_seats(many):
    """Things and pegs in turn, with names of one and two letters."""
    names = [one + other for one in ["", "x"] for other in "abcdefghijklmnopqrstuvwxyz"]
    return [Peg(name) if at % 3 else Thing(name, at) for at, name in enumerate(names[:many])]


def many_looks(many):
    return [("look", at, "a", at) for at in range(many)]


class RefusedTest(unittest.TestCase):
    def refused(self, error, attribute, value, *given):
        with self.assertRaises(error) as caught:
            Book(*given)
        self.assertEqual(getattr(caught.exception, attribute), value)

    def test_seats_that_are_no_list(self):
        for value in [5, "ab", *wrong_values()]:
            if not isinstance(value, (tuple, list)):
                self.refused(InvalidSeat, "at", 0, value)
                self.refused(InvalidSeat, "at", 0, value, value)

    def test_items_that_are_no_seats(self):
        for value in [5, Seat("x"), (Thing("x", 9),), [Peg("x")], Thing, *wrong_values()]:
            if not isinstance(value, (Thing, Peg)):
                self.refused(InvalidSeat, "at", 0, [value])
                self.refused(InvalidSeat, "at", 2, (Thing("a", 1), Peg("b"), value))
                self.refused(InvalidSeat, "at", 1, [Thing("a", 1), value, Peg("b"), value])

    def test_names_that_occur_earlier(self):
        self.refused(DuplicateName, "name", "a", [Thing("a", 1), Peg("a")])
        self.refused(DuplicateName, "name", "a", [Peg("a"), Peg("a")])
        self.refused(DuplicateName, "name", "a", [Thing("a", 1), Thing("a", 1)])
        # The b of index 2 is the first one that occurs earlier, though a stands before it.
        self.refused(DuplicateName, "name", "b", [Peg("a"), Peg("b"), Peg("b"), Peg("a")])

    def test_numbers_that_occur_earlier(self):
        self.refused(DuplicateNumber, "given", 1, [Thing("a", 1), Thing("b", 1)])
        self.refused(DuplicateNumber, "given", 0, [Thing("a", 0), Peg("x"), Thing("b", 0)])
        self.refused(DuplicateNumber, "given", 2, [Thing("a", 1), Thing("b", 2), Thing("c", 2), Thing("d", 1)])

    def test_too_many_seats(self):
        self.assertEqual(len(Book(many_seats(24))), 24)
        for many in [25, 26, 40]:
            self.refused(TooMany, "most", 24, many_seats(many))

    def test_records_that_are_no_list(self):
        for value in [5, "ab", *wrong_values()]:
            if not isinstance(value, (tuple, list)):
                self.refused(InvalidRecord, "at", 0, [], value)
                self.refused(InvalidRecord, "at", 0, SEATS, value)

    def test_too_many_records(self):
        for many in [119, 120]:
            self.assertEqual(len(Book([Thing("a", 1)], many_looks(many)).records()), many)
        for many in [121, 122, 150]:
            self.refused(TooMany, "most", 120, [Thing("a", 1)], many_looks(many))

    def test_the_greatest_book(self):
        seats = many_seats(24)
        records = [("stay", seat.label, "hall", at, at + 1) for at in range(4) for seat in seats]
        records = [*records, *[("given", seat.label, 5) for seat in seats]]
        book = Book(seats, records)
        self.assertEqual([len(book), len(book.records()), len(book.steps())], [24, 120, 4])
        with self.assertRaises(TooMany) as caught:
            book.with_record(("look", 0, "a", 1))
        self.assertEqual(caught.exception.most, 120)

    def test_order_of_the_errors(self):
        wrong, clash = ("given", "x", 5), [("given", "a", 5), ("given", "a", 5)]
        doubled = [Peg("a"), Peg("a"), Thing("b", 1), Thing("c", 1)]
        # Each call has what the calls behind it have, too.
        self.refused(InvalidSeat, "at", 29, [*doubled, *many_seats(25), 5], [wrong])
        self.refused(InvalidSeat, "at", 0, 5, 5)
        self.refused(DuplicateName, "name", "a", [Thing("b", 1), Thing("c", 1), *doubled, *many_seats(25)], [wrong])
        self.refused(DuplicateNumber, "given", 0, [*many_seats(25), Thing("yy", 0), Thing("zz", 3)], [wrong])
        self.refused(TooMany, "most", 24, many_seats(25), [wrong])
        self.refused(TooMany, "most", 24, many_seats(25), 5)
        self.refused(InvalidRecord, "at", 2, [Thing("a", 1)], [*clash, wrong, *many_looks(120)])
        self.refused(InvalidRecord, "at", 122, [Thing("a", 1)], [*clash, *many_looks(120), wrong, wrong])
        self.refused(Clash, "at", 1, [Thing("a", 1)], [*clash, *many_looks(120)])
        self.refused(Clash, "at", 121, [Thing("a", 1)], [*many_looks(120), *clash])
        self.refused(TooMany, "most", 120, [Thing("a", 1)], [*clash[:1], *many_looks(120)])

    def test_class_values(self):
        self.assertEqual([Book.MOST_SEATS, Book.MOST_RECORDS], [24, 120])
        self.assertEqual([Book().MOST_SEATS, Book().MOST_RECORDS], [24, 120])


class ToldTest(unittest.TestCase):
    def setUp(self):
        self.book = Book(SEATS, RECORDS)

    def test_seats_and_records(self):
        self.assertEqual(self.book.seats(), SEATS)
        self.assertEqual(self.book.records(), RECORDS)
        self.assertEqual([Book().seats(), Book().records()], [[], []])

    def test_by_name_and_by_tuple(self):
        self.assertEqual(Book(records=tuple(RECORDS), seats=tuple(SEATS)), self.book)
        self.assertIsInstance(Book(tuple(SEATS), tuple(RECORDS)).seats(), list)
        self.assertIsInstance(Book(tuple(SEATS), tuple(RECORDS)).records(), list)

    def test_what_was_passed_is_copied(self):
        seats, records = list(SEATS), list(RECORDS)
        book = Book(seats, records)
        seats.pop()
        records.clear()
        self.assertEqual([book.seats(), book.records()], [SEATS, RECORDS])
        self.assertEqual(book, self.book)

    def test_arguments_are_not_changed(self):
        seats, records = list(SEATS), list(RECORDS)
        book = Book(seats, records)
        book.with_record(("look", 1, "a", 1))
        book.without(0)
        book.since(4)
        self.assertEqual([seats, records], [SEATS, RECORDS])

    def test_what_is_told_is_new(self):
        self.book.seats().clear()
        self.book.records().append(5)
        self.book.names().clear()
        self.book.steps().clear()
        self.assertEqual([self.book.seats(), self.book.records()], [SEATS, RECORDS])
        self.assertEqual(self.book.names(), ["a", "hook", "b", "c"])
        self.assertEqual(self.book.steps(), Book(SEATS, RECORDS).steps())
        self.assertEqual(len(self.book.steps()), 4)

    def test_names_by_kinds(self):
        names = self.book.names
        self.assertEqual(names(), ["a", "hook", "b", "c"])
        self.assertEqual([names("thing"), names("peg")], [["a", "b"], ["hook", "c"]])
        self.assertEqual(names("peg", "thing"), ["a", "hook", "b", "c"])
        self.assertEqual(names("thing", "thing"), ["a", "b"])
        self.assertEqual([names("seat"), names(""), names("a"), names("thin", "pegs")], [[], [], [], []])
        self.assertEqual([names("seat", "peg"), names("x", "thing")], [["hook", "c"], ["a", "b"]])
        self.assertEqual([Book().names(), Book().names("thing")], [[], []])

    def test_seat(self):
        self.assertEqual([self.book.seat(seat.label) for seat in SEATS], SEATS)
        self.assertEqual(self.book.seat(name="hook"), Peg("hook"))

    def test_unknown_names(self):
        for value in [5, "d", "hall", "thing", "a ", Thing("a", 5), ("a",), ["a"], *wrong_values()]:
            with self.assertRaises(UnknownName) as caught:
                self.book.seat(value)
            self.assertIs(caught.exception.name, value)
            self.assertIs(value in self.book, False)
        with self.assertRaises(UnknownName):
            Book().seat("a")

    def test_in(self):
        self.assertEqual([name in self.book for name in ["a", "hook", "b", "c"]], [True] * 4)

    def test_len_and_repr(self):
        self.assertEqual([len(Book()), len(Book(SEATS[:1])), len(self.book)], [0, 1, 4])
        books = [Book(), Book(SEATS[:1]), Book(SEATS[:1], [("given", "a", 5)]), self.book]
        words = ["0 seats, 0 records", "1 seats, 0 records", "1 seats, 1 records", "4 seats, 7 records"]
        self.assertEqual([repr(book) for book in books], [f"Book({word})" for word in words])

    def test_equal(self):
        self.assertTrue(self.book == Book(SEATS, RECORDS))
        self.assertFalse(self.book != Book(SEATS, RECORDS))
        self.assertTrue(Book() == Book([], ()))
        others = [
            Book(SEATS), Book(), Book(SEATS[::-1], RECORDS), Book(SEATS, RECORDS[::-1]), Book(SEATS, RECORDS[:-1]),
            Book([Thing("a", 6), *SEATS[1:]], RECORDS), Book([*SEATS, Peg("d")], RECORDS),
            Book([*SEATS[:3], Thing("c", 9)], RECORDS), Book(SEATS, [("look", 4, "a", 8), *RECORDS[1:]]),
        ]
        for at, one in enumerate([self.book, *others]):
            for to, other in enumerate([self.book, *others]):
                self.assertIs(one == other, at == to, (at, to))

    def test_equals_nothing_else(self):
        for book in [self.book, Book()]:
            for value in [5, SEATS, (SEATS, RECORDS), repr(book), Letter((5, 5)), *wrong_values()]:
                self.assertIs(book == value, False)
                self.assertIs(value == book, False)


class ChangedTest(unittest.TestCase):
    def setUp(self):
        self.book = Book(SEATS, RECORDS)

    def tearDown(self):
        # The first book stays as it was, whatever was made from it.
        self.assertEqual([self.book.seats(), self.book.records()], [SEATS, RECORDS])
        self.assertEqual(self.book.steps(), Book(SEATS, RECORDS).steps())

    def test_with_record(self):
        for record in [("look", 0, "a", 1), ("given", "hook", 5), RECORDS[0]]:
            book = self.book.with_record(record)
            self.assertEqual(book, Book(SEATS, [*RECORDS, record]))
            self.assertEqual([book.seats(), book.records()], [SEATS, [*RECORDS, record]])
        self.assertEqual(Book(SEATS).with_record(record=RECORDS[1]), Book(SEATS, RECORDS[1:2]))
        self.assertEqual(len(self.book.with_record(("swap", 0, "a", "b")).steps()), 5)

    def test_without(self):
        for at in range(len(RECORDS)):
            book = self.book.without(at)
            self.assertEqual(book, Book(SEATS, RECORDS[:at] + RECORDS[at + 1:]))
            self.assertEqual([book.seats(), len(book.records())], [SEATS, 6])
        doubled = Book(SEATS, [RECORDS[0], RECORDS[0]])
        self.assertEqual(doubled.without(index=1), Book(SEATS, RECORDS[:1]))

    def test_without_what_is_no_index(self):
        for value in [7, 8, "0", *wrong_values()]:
            with self.assertRaises(InvalidNumber) as caught:
                self.book.without(value)
            self.assertIs(caught.exception.given, value)
        for value in [0, 1, -1]:
            with self.assertRaises(InvalidNumber):
                Book(SEATS).without(value)

    def test_since(self):
        kept = {0: RECORDS, 3: RECORDS, 10 ** 6: [RECORDS[1], RECORDS[3], RECORDS[4]]}
        kept[4] = [RECORDS[0], RECORDS[1], *RECORDS[3:]]
        kept[5] = [RECORDS[1], *RECORDS[3:]]
        kept[6] = kept[10 ** 6]
        for hour, records in kept.items():
            book = self.book.since(hour)
            self.assertEqual([book.seats(), book.records()], [SEATS, records], hour)
            self.assertEqual(book, Book(SEATS, records))
            self.assertEqual(book.steps(), Book(SEATS, records).steps())
        self.assertEqual(self.book.since(hour=6), self.book.since(7))

    def test_since_what_is_no_hour(self):
        for value in [10 ** 6 + 1, "5", *wrong_values()]:
            with self.assertRaises(InvalidNumber) as caught:
                self.book.since(value)
            self.assertIs(caught.exception.given, value)


if __name__ == "__main__":
    unittest.main()
