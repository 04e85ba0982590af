import random
import unittest

from lumplooks.books import Book
from lumplooks.seats import Peg, Thing
from tests.samples import great_book, random_book

SEATS = [Thing("c", 1), Peg("a"), Thing("b", 2), Peg("d")]


def steps_by_middles(book):
    """The steps as [7] tells them: a seat stays in a shop between two cuts if it is there halfway."""
    records = book.records()
    stays = [record for record in records if record[0] == "stay"]
    events = [(at, record) for at, record in enumerate(records) if record[0] in ("swap", "look")]
    cuts = sorted({hour for stay in stays for hour in stay[3:]} | {event[1] for at, event in events})
    steps = []
    for cut, end in zip(cuts, [*cuts[1:], None]):
        steps += [(event[0], at, *event[2:]) for at, event in events if event[1] == cut]
        if end is None:
            continue
        for shop in sorted({stay[2] for stay in stays}):
            inside = {stay[1] for stay in stays if stay[2] == shop and 2 * stay[3] < cut + end < 2 * stay[4]}
            if len(inside) >= 2:
                steps.append(("meeting", shop, cut, end, tuple(name for name in book.names() if name in inside)))
    return steps


class StepsTest(unittest.TestCase):
    def steps(self, *records):
        return Book(SEATS, records).steps()

    def test_no_steps(self):
        self.assertEqual(Book().steps(), [])
        self.assertEqual(self.steps(("given", "a", 5), ("mixed", ("b", "c"), (5, 6))), [])
        self.assertEqual(self.steps(("stay", "a", "hall", 0, 5)), [])
        self.assertEqual(self.steps(("stay", "a", "hall", 0, 5), ("stay", "b", "yard", 0, 5)), [])
        self.assertEqual(self.steps(("stay", "a", "hall", 0, 5), ("stay", "b", "hall", 5, 9)), [])

    def test_a_meeting_has_its_names_in_the_order_of_the_book(self):
        for names in ["abc", "cba", "bca"]:
            stays = [("stay", name, "hall", 0, 5) for name in names]
            self.assertEqual(self.steps(*stays), [("meeting", "hall", 0, 5, ("c", "a", "b"))])

    def test_stays_that_begin_and_end_at_other_hours(self):
        steps = self.steps(("stay", "a", "hall", 2, 8), ("stay", "b", "hall", 0, 5), ("stay", "c", "hall", 4, 9))
        self.assertEqual(steps, [
            ("meeting", "hall", 2, 4, ("a", "b")), ("meeting", "hall", 4, 5, ("c", "a", "b")),
            ("meeting", "hall", 5, 8, ("c", "a")),
        ])

    def test_shops_ascending(self):
        stays = [("stay", name, shop, 0, 5) for name, shop in [("a", "yard"), ("b", "hall"), ("c", "yard"), ("d", "hall")]]
        self.assertEqual(self.steps(*stays), [
            ("meeting", "hall", 0, 5, ("b", "d")), ("meeting", "yard", 0, 5, ("c", "a")),
        ])

    def test_swaps_and_looks_of_an_hour_in_the_order_of_the_records(self):
        steps = self.steps(
            ("swap", 5, "a", "b"), ("look", 3, "c", 9), ("given", "a", 1), ("look", 5, "b", 8), ("swap", 5, "b", "a"),
            ("look", 5, "b", 8), ("swap", 4, "d", "c"),
        )
        self.assertEqual(steps, [
            ("look", 1, "c", 9), ("swap", 6, "d", "c"), ("swap", 0, "a", "b"), ("look", 3, "b", 8),
            ("swap", 4, "b", "a"), ("look", 5, "b", 8),
        ])

    def test_events_come_before_the_meetings_that_begin_at_their_hour(self):
        steps = self.steps(("stay", "a", "hall", 0, 4), ("stay", "b", "hall", 0, 4), ("look", 0, "b", 5), ("look", 4, "b", 6))
        self.assertEqual(steps, [("look", 2, "b", 5), ("meeting", "hall", 0, 4, ("a", "b")), ("look", 3, "b", 6)])

    def test_events_cut_meetings(self):
        stays = [("stay", "a", "hall", 0, 9), ("stay", "b", "hall", 0, 9)]
        steps = self.steps(*stays, ("look", 4, "c", 5), ("swap", 6, "c", "d"))
        self.assertEqual(steps, [
            ("meeting", "hall", 0, 4, ("a", "b")), ("look", 2, "c", 5), ("meeting", "hall", 4, 6, ("a", "b")),
            ("swap", 3, "c", "d"), ("meeting", "hall", 6, 9, ("a", "b")),
        ])

    def test_stays_of_others_cut_meetings(self):
        stays = [("stay", "a", "hall", 0, 9), ("stay", "b", "hall", 0, 9), ("stay", "c", "yard", 3, 7)]
        self.assertEqual(self.steps(*stays), [
            ("meeting", "hall", start, end, ("a", "b")) for start, end in [(0, 3), (3, 7), (7, 9)]
        ])

    def test_stays_of_one_seat_that_touch(self):
        stays = [("stay", "a", "hall", 0, 4), ("stay", "a", "hall", 4, 9), ("stay", "b", "hall", 0, 9)]
        self.assertEqual(self.steps(*stays), [
            ("meeting", "hall", 0, 4, ("a", "b")), ("meeting", "hall", 4, 9, ("a", "b")),
        ])

    def test_given_and_mixed_make_no_cuts(self):
        stays = [("stay", "a", "hall", 0, 9), ("stay", "b", "hall", 0, 9)]
        self.assertEqual(self.steps(("given", "c", 5), *stays, ("mixed", ("a", "b"), (3, 4))), [
            ("meeting", "hall", 0, 9, ("a", "b")),
        ])

    def test_told_twice_the_same(self):
        book = Book(SEATS, [("look", 4, "c", 5), ("stay", "a", "hall", 0, 9), ("stay", "b", "hall", 0, 9)])
        first = book.steps()
        wanted = list(first)
        self.assertEqual(book.steps(), wanted)
        first.reverse()
        first.pop()
        self.assertEqual(book.steps(), wanted)
        self.assertIsInstance(first, list)

    def test_random_books(self):
        chance = random.Random(16)
        found = 0
        for _ in range(400):
            book = random_book(chance, 4, 40)
            self.assertEqual(book.steps(), steps_by_middles(book), book.records())
            found += len([step for step in book.steps() if step[0] == "meeting"])
        self.assertGreater(found, 400)

    def test_great_books(self):
        chance = random.Random(18)
        for hours, shops in [(10, 1), (20, 2), (120, 4), (300, 8), (10 ** 6, 3)]:
            for _ in range(4):
                book = great_book(chance, hours, shops)
                self.assertEqual([len(book), len(book.records())], [24, 120])
                self.assertEqual(book.steps(), steps_by_middles(book))
                for other in [book.without(7), book.since(hours // 2), book.without(0).with_record(("swap", 5, "a", "b"))]:
                    self.assertEqual(other.steps(), steps_by_middles(other))

    def test_a_look_at_each_hour(self):
        names = [chr(ord("a") + at) for at in range(24)]
        book = Book([Thing(name, at) for at, name in enumerate(names)],
                    [("look", hour, names[hour % 24], 0) for hour in reversed(range(120))])
        self.assertEqual(book.steps(), [("look", 119 - hour, names[hour % 24], 0) for hour in range(120)])

    def test_shops_full_of_seats(self):
        """All seats stay all the time, so that they meet from each look to the next one."""
        for shops in [1, 2, 12]:
            names = [chr(ord("a") + at) for at in range(24)]
            book = Book([Thing(name, at) for at, name in enumerate(names)], [
                *[("stay", name, "abcdefghijkl"[at % shops], 0, 95) for at, name in enumerate(names)],
                *[("look", hour, names[hour % 24], 0) for hour in range(96)],
            ])
            self.assertEqual(book.steps(), steps_by_middles(book))
            self.assertEqual(len(book.steps()), 96 + 95 * shops)

    def test_kinds_of_values(self):
        chance = random.Random(17)
        for _ in range(50):
            for step in random_book(chance, 4, 40).steps():
                self.assertIsInstance(step, tuple)
                if step[0] == "meeting":
                    self.assertIsInstance(step[4], tuple)


if __name__ == "__main__":
    unittest.main()
