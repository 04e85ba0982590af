"""What holds over the whole program: chains of meetings, answers told as looks, and two books woven into one."""

import random
import unittest
from itertools import product

from lumplooks.answerers import Answerer
from lumplooks.books import Book
from lumplooks.cases import Case
from lumplooks.letters import letter_for
from lumplooks.lumps import fates_after, lists, looks, lumps, plan
from lumplooks.more import comes, goes
from lumplooks.rules import Rule
from lumplooks.seats import Peg, Thing
from tests.samples import LETTER, LOOKS, STAYS, random_book
from tests.tables import Tables
from tests.ways import all_ways, written

ORDERS = ["any", "timed", "stopped"]


def lump_sets(case):
    return sorted((sorted([*lump.names(), *lump.pegs()]), lump.is_open) for lump in lumps(case))


class ChainsTest(unittest.TestCase):
    def test_chains_of_meetings(self):
        """Each thing meets the next one at an hour; the hours rise, fall or are mixed."""
        chance = random.Random(181)
        names = "abcdefg"
        for at in range(60):
            hours = [10 * hour for hour in range(6)]
            if at % 3 == 1:
                hours.reverse()
            elif at % 3 == 2:
                chance.shuffle(hours)
            records = [("given", name, 7 if name == "a" else 3) for name in names]
            for one, other, hour in zip(names, names[1:], hours):
                records += [("stay", name, "hall", hour, hour + 5) for name in (one, other)]
            if at > 5:
                records.append(("look", chance.randint(0, 60), chance.choice("abdefg"), chance.choice([7, 3])))
            self.check(Book([Peg(name) if name == "c" and at % 2 else Thing(name, place)
                             for place, name in enumerate(names)], records))

    def check(self, book):
        case, tables = Case(book, LETTER), Tables(book, LETTER)
        things = book.names("thing")
        self.assertEqual([case.least, case.fates(), lists(case)], [tables.least, tables.fates(), tables.ordered_lists()])
        self.assertEqual(case.write(), [name for name in things if tables.fates()[name] != "never"])
        self.assertEqual(lump_sets(case), sorted((sorted(names), is_open) for names, is_open in tables.lumps()))
        self.assertEqual(looks(case), tables.looks())
        for order in ORDERS:
            ways = all_ways(book, LETTER, order)
            for links in [*range(8), 20, None]:
                rule = Rule(links, order)
                found = written(book, ways, links)
                self.assertEqual(rule.written(book, LETTER), found)
                self.assertEqual(rule.misses(case), [name for name in case.write() if name not in found])
                self.assertEqual(rule.needless(case), [name for name in found if name not in case.write()])
        if case.least == 0:
            self.assertEqual(Rule().misses(case), [])


class ToldAnswersTest(unittest.TestCase):
    def test_answers_as_later_looks(self):
        chance = random.Random(182)
        for at in range(120):
            book = random_book(chance, 7, 20, [STAYS, LOOKS][at % 2])
            case = Case(book, LETTER)
            answerer = Answerer(case)
            things = book.names("thing")
            for name in chance.sample(things, chance.randint(0, len(things))):
                answerer(name)
            self.check(case, answerer.asked(), chance)

    def check(self, case, answers, chance):
        told = case.book
        for name, is_named in answers:
            told = told.with_record(("look", 100, name, chance.choice([7, 8]) if is_named else chance.choice([3, 9])))
        later = Case(told, LETTER)
        self.assertEqual(later.least, case.least)
        fates = fates_after(case, *answers)
        self.assertEqual([later.fates(), fates_after(later, *answers), fates_after(later)], [fates, fates, fates])
        wanted = dict(answers)
        fitting = [names for names in lists(case) if all((name in names) is word for name, word in wanted.items())]
        self.assertEqual(lists(later), fitting)
        self.assertEqual(later.write(), [name for name in told.names("thing") if fates[name] != "never"])
        self.assertEqual(looks(later) == 0, all(fates[name] != "perhaps" for name in told.names("thing")))
        self.assertLessEqual(looks(case) - looks(later), len(answers))
        many = len(case.book.records())
        for at in range(many):
            if case.record_fate(at) != "sometimes":
                self.assertEqual(later.record_fate(at), case.record_fate(at))
        self.assertEqual({later.record_fate(many + at) for at in range(len(answers))}, {"never"} if answers else set())
        for name, is_named in answers:
            right, wrong = ("look", 100, name, 7 if is_named else 3), ("look", 100, name, 3 if is_named else 7)
            self.assertEqual([comes(later, right), goes(later, right)], [[], []])
            # One more look against one of the answers does not change more than it must.
            other = Case(told.with_record(wrong), LETTER)
            self.assertEqual(comes(later, wrong), [name for name in other.write() if name not in later.write()])
            self.assertEqual(goes(later, wrong), [name for name in later.write() if name not in other.write()])
            self.assertEqual(other.least, case.least + 1)


class WovenTest(unittest.TestCase):
    def renamed(self, book):
        """The same book with other names, numbers of things and shops."""
        names = {name: name + "z" for name in book.names()}
        shops = {"hall": "hallz", "yard": "yardz"}
        words = {**names, **shops}

        def other(item):
            return tuple(map(other, item)) if isinstance(item, tuple) else words.get(item, item)
        seats = [
            Thing(names[seat.label], seat.number + 50) if seat.IS_LOOKED_AT else Peg(names[seat.label])
            for seat in book.seats()
        ]
        return Book(seats, [(record[0], *map(other, record[1:])) for record in book.records()])

    def woven(self, chance, one, other):
        """The items of two lists in one, each in its own order."""
        places = set(chance.sample(range(len(one) + len(other)), len(one)))
        rows = [list(reversed(one)), list(reversed(other))]
        return [rows[0].pop() if at in places else rows[1].pop() for at in range(len(one) + len(other))], places

    def test_two_books_in_one(self):
        chance = random.Random(183)
        for at in range(100):
            words = [STAYS, LOOKS][at % 2]
            one = random_book(chance, 4, 16, words)
            other = self.renamed(random_book(chance, 4, 16, words))
            seats, _ = self.woven(chance, one.seats(), other.seats())
            records, places = self.woven(chance, one.records(), other.records())
            self.check(one, other, Book(seats, records), places)

    def check(self, one, other, book, places):
        case = Case(book, LETTER)
        halves = [Case(one, LETTER), Case(other, LETTER)]
        first, second = halves
        self.assertEqual(case.least, first.least + second.least)
        self.assertEqual(case.fates(), {**first.fates(), **second.fates()})
        self.assertEqual(list(case.fates()), book.names())
        self.assertEqual(looks(case), looks(first) + looks(second))
        wanted = sorted(sorted([*mine, *others]) for mine, others in product(lists(first), lists(second)))
        self.assertEqual(sorted(sorted(names) for names in lists(case)), wanted)
        for name in book.names():
            mine, rest = halves if name in one else halves[::-1]
            for is_named in [True, False]:
                many = mine.fewest(name, is_named=is_named)
                self.assertEqual(case.fewest(name, is_named=is_named), None if many is None else many + rest.least)
        told = case.counts(*book.names())
        counts = [half.counts(*half.book.names()) for half in halves]
        self.assertEqual([told.holds(), told.low(), told.high()],
                         [True, sum(half.low() for half in counts), sum(half.high() for half in counts)])
        turns = [0, 0]
        for at in range(len(book.records())):
            side = 0 if at in places else 1
            self.assertEqual(case.record_fate(at), halves[side].record_fate(turns[side]))
            turns[side] += 1
        self.check_lumps(case, halves)
        self.check_letters(case, halves)

    def check_lumps(self, case, halves):
        """Loose seats of both halves are in one lump, because each two of them are both loose."""
        rows = [row for half in halves for row in lump_sets(half)]
        loose = [Tables(half.book, LETTER).loose() for half in halves]
        both = sorted(loose[0] | loose[1])
        apart = [row for row in rows if not set(row[0]) & set(both)]
        self.assertEqual(lump_sets(case), sorted([*apart, *([(both, True)] if both else [])]))
        planned = {name for half in halves for name in plan(half)}
        closed = [row for row in apart if not row[1]]
        # Which thing of a closed lump is left out, depends on the order of the seats.
        self.assertEqual(len(plan(case)), len(planned))
        for names, _ in closed:
            self.assertEqual(len(set(plan(case)) & set(names)), len(names) - 1)
        self.assertEqual(plan(case), [name for name in case.book.names() if name in plan(case)])

    def check_letters(self, case, halves):
        book = case.book
        names = [name for half in halves for name in half.write()]
        self.assertEqual(case.write(), [name for name in book.names() if name in names])
        numbers = {name: book.seat(name).number for name in book.names("thing")}
        others = [number for name, number in numbers.items() if name not in names]
        self.assertEqual(case.letter_to_owners(), letter_for([numbers[name] for name in names], others))
        for order in ORDERS:
            for links in [0, 1, 2, None]:
                rule = Rule(links, order)
                ends = [name for half in halves for name in rule.written(half.book, LETTER)]
                self.assertEqual(rule.written(book, LETTER), [name for name in book.names() if name in ends])


if __name__ == "__main__":
    unittest.main()
