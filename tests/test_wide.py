"""Books in other words, of one shop, of long rows of swaps, and the greatest ones: what must be the same about them."""

import random
import unittest
from itertools import combinations

from lumplooks.books import Book
from lumplooks.cases import Case
from lumplooks.letters import Letter, letter_for
from lumplooks.lumps import exchange, fates_after, lists, looks, lumps, plan
from lumplooks.papers import Fate
from lumplooks.seats import Peg, Thing
from tests.samples import LETTER, LOOKS, STAYS, great_book, random_book
from tests.tables import Tables

ALL = Letter((0, Letter.GREATEST))


def lump_sets(case):
    return sorted((sorted([*lump.names(), *lump.pegs()]), lump.is_open, lump.looks()) for lump in lumps(case))


class OtherNumbersTest(unittest.TestCase):
    def test_letter_of_all_other_numbers(self):
        chance = random.Random(131)
        turned = {"sure": "never", "never": "sure", "perhaps": "perhaps"}
        for at in range(120):
            book = random_book(chance, 8, 32, [STAYS, LOOKS][at % 2])
            one, other = Case(book, LETTER), Case(book, ALL - LETTER)
            tables = Tables(book, ALL - LETTER)
            self.assertEqual([one.least, one.least], [other.least, tables.least])
            self.assertEqual(other.fates(), tables.fates())
            self.assertEqual(other.fates(), {name: turned[fate] for name, fate in one.fates().items()})
            self.assertEqual([lump_sets(one), looks(one), plan(one)], [lump_sets(other), looks(other), plan(other)])
            names = chance.sample(book.names(), chance.randint(0, len(book)))
            told = one.counts(*names), other.counts(*names)
            self.assertEqual(told[0].low() + told[1].high(), len(names))
            self.assertEqual(told[0].high() + told[1].low(), len(names))
            for index in range(len(book.records())):
                self.assertEqual(one.record_fate(index), other.record_fate(index))
            for name in names:
                self.assertEqual(one.fewest(name), other.fewest(name, is_named=False))


class OtherWordsTest(unittest.TestCase):
    def check_same(self, one, other, names):
        """Both cases say the same, whatever the order of the seats is."""
        self.assertEqual([one.least, one.fates()], [other.least, other.fates()])
        self.assertEqual([looks(one), lump_sets(one)], [looks(other), lump_sets(other)])
        self.assertEqual(one.counts(*names).told(), other.counts(*names).told())
        self.assertEqual(sorted(one.write()), sorted(other.write()))

    def test_another_order(self):
        chance = random.Random(132)
        for at in range(100):
            book = random_book(chance, 8, 32, [STAYS, LOOKS][at % 2])
            names = chance.sample(book.names(), chance.randint(0, len(book)))
            seats, records = book.seats(), book.records()
            chance.shuffle(seats)
            self.check_same(Case(book, LETTER), Case(Book(seats, records), LETTER), names)
            # Swaps and looks of one hour stay in their order; everything else can stand anywhere.
            events = sorted([row for row in records if row[0] in ("swap", "look")], key=lambda row: row[1])
            others = [row for row in records if row[0] not in ("swap", "look")]
            chance.shuffle(others)
            places = chance.sample(range(len(records)), len(events))
            mixed = [events.pop(0) if place in places else others.pop() for place in range(len(records))]
            self.check_same(Case(book, LETTER), Case(Book(seats, mixed), LETTER), names)

    def test_stays_in_two(self):
        chance = random.Random(133)
        cut = 0
        for _ in range(100):
            book = random_book(chance, 7, 24)
            names = chance.sample(book.names(), chance.randint(0, len(book)))
            rows = []
            for record in book.records():
                if record[0] == "stay" and record[4] - record[3] > 1 and chance.random() < 0.7:
                    hour = chance.randint(record[3] + 1, record[4] - 1)
                    rows += [(*record[:4], hour), (*record[:3], hour, record[4])]
                    cut += 1
                else:
                    rows.append(record)
            self.check_same(Case(book, LETTER), Case(Book(book.seats(), rows), LETTER), names)
        self.assertGreater(cut, 100)

    def test_doubled_hours(self):
        chance = random.Random(134)
        places = {"swap": [1], "look": [1], "stay": [3, 4]}
        for at in range(80):
            book = random_book(chance, 8, 32, [STAYS, LOOKS][at % 2])
            rows = [
                tuple(item * 2 if place in places.get(record[0], []) else item for place, item in enumerate(record))
                for record in book.records()
            ]
            case, doubled = Case(book, LETTER), Case(Book(book.seats(), rows), LETTER)
            self.check_same(case, doubled, book.names())
            self.assertEqual(lists(case), lists(doubled))

    def test_without_looks_and_earlier_hours(self):
        chance = random.Random(135)
        for _ in range(80):
            book = random_book(chance, 7, 24, LOOKS)
            case = Case(book, LETTER)
            for at in reversed(range(len(book.records()))):
                if book.records()[at][0] == "look":
                    less = Case(book.without(at), LETTER)
                    self.assertIn(case.least - less.least, [0, 1])
                    self.assertEqual(less.fates(), Tables(less.book, LETTER).fates())
                    if case.record_fate(at) == "never":
                        self.assertTrue(all(names in lists(less) for names in lists(case)))
                    book, case = less.book, less
            later = Case(book.since(3), LETTER)
            tables = Tables(later.book, LETTER)
            self.assertLessEqual(later.least, case.least)
            self.assertEqual([later.least, later.fates(), lists(later)], [tables.least, tables.fates(), tables.ordered_lists()])


class OneShopTest(unittest.TestCase):
    def test_all_meet(self):
        """Some of the mixed parts are named; whoever is in the shop until the end can have them."""
        names = "abcdefghijkl"
        for many in range(3, 13):
            for named in range(many + 1):
                for early in [0, 1, 2]:
                    self.check(names[:many], named, early)

    def check(self, names, named, early):
        """So many seats leave the shop before the others come: they meet nobody."""
        many = len(names)
        inside = names[early:] if early else names
        seats = [Thing(name, at) for at, name in enumerate(names)]
        parts = [7] * named + [3] * (many - named)
        records = [("mixed", tuple(names), tuple(parts))]
        records += [("stay", name, "hall", 5, 9) if name in inside else ("stay", name, "hall", 0, 5) for name in names]
        case = Case(Book(seats, records), LETTER)
        fate = "never" if named == 0 else "sure" if named == many else "perhaps"
        self.assertEqual(set(case.fates().values()), {fate})
        self.assertEqual([case.least, case.counts(*names).told()], [0, f"counts {named} to {named}"])
        open_names = list(names) if fate == "perhaps" else []
        self.assertEqual([looks(case), plan(case)], [max(0, len(open_names) - 1), open_names[:-1]])
        self.assertEqual([lump.names() for lump in lumps(case)], [open_names] if open_names else [])
        self.assertEqual([case.fewest(names[0]), case.fewest(names[0], is_named=False)],
                         [None if named == 0 else 0, None if named == many else 0])
        self.assertEqual(case.write(), [] if named == 0 else list(names))
        self.assertEqual(case.counts(names[0], names[1]).told(),
                         f"counts {max(0, named + 2 - many)} to {min(2, named)}")
        if many < 9:
            wanted = [list(some) for some in combinations(names, named)]
            self.assertEqual(sorted(lists(case)), sorted(wanted))

    def test_a_stay_that_ends_early(self):
        """The first thing bears the named part and leaves when the third one comes: it meets the second one alone."""
        seats = [Thing("a", 1), Thing("b", 2), Thing("c", 3), Peg("p")]
        given = [("given", "a", 7), ("given", "b", 3), ("given", "c", 3), ("given", "p", 3)]
        stays = [("stay", "a", "hall", 0, 4), ("stay", "b", "hall", 0, 4), ("stay", "c", "hall", 4, 8)]
        case = Case(Book(seats, [*given, *stays]), LETTER)
        self.assertEqual([repr(lump) for lump in lumps(case)], ["Lump(a b: closed)"])
        longer = Case(Book(seats, [*given, ("stay", "b", "hall", 0, 5), *stays[::2]]), LETTER)
        self.assertEqual([repr(lump) for lump in lumps(longer)], ["Lump(a b c: closed)"])
        open_one = Case(Book(seats, [*given, *stays, ("stay", "p", "hall", 3, 5)]), LETTER)
        self.assertEqual([repr(lump) for lump in lumps(open_one)], ["Lump(a b c p: open)"])
        self.assertEqual([looks(case), looks(longer), looks(open_one)], [1, 2, 3])


class SwapRowTest(unittest.TestCase):
    def test_rows_of_swaps(self):
        for many in [7, 8, 9]:
            for number in [None, 7, 3]:
                names = "abcdefghi"[:many]
                seats = [Thing(name, at + 1) for at, name in enumerate(names)]
                records = [("given", name, 7 if name == "a" else 3) for name in names]
                records += [("swap", at, names[at], names[at + 1]) for at in range(many - 1)]
                if number:
                    records.append(("look", many, names[-1], number))
                book = Book(seats, records)
                case, tables = Case(book, LETTER), Tables(book, LETTER)
                self.assertEqual([case.least, case.fates()], [tables.least, tables.fates()])
                self.assertEqual([case.least, len(lists(case))], [1 if number == 3 else 0, len(tables.lists)])
                self.assertEqual([looks(case), lump_sets(case)], [tables.looks(), sorted(
                    (sorted(some), is_open, len(some) - (not is_open)) for some, is_open in tables.lumps())])
                for at in range(len(records)):
                    self.assertEqual(case.record_fate(at), tables.record_fate(at))
                self.assertTrue(case.best().holds() and all(case.fate(name).holds() for name in names))
                if number == 3:
                    # Any one of the swaps was not done, or what was told of the first or the last thing is false.
                    self.assertEqual(case.fates(), dict.fromkeys(names, "perhaps"))
                    self.assertEqual({case.record_fate(at) for at in [0, *range(many, len(records))]}, {"sometimes"})
                else:
                    self.assertEqual(case.write(), [names[-1]])
                    self.assertEqual(case.letter_to_owners(), str(many))


class GreatestTest(unittest.TestCase):
    def check(self, book, letter=LETTER):
        """What can be checked without a search through all states."""
        case = Case(book, letter)
        names = book.names()
        best = case.best()
        self.assertEqual([best.holds(), best.many_false()], [True, case.least])
        fates = case.fates()
        for name in names:
            paper = case.fate(name)
            self.assertIsInstance(paper, Fate)
            self.assertEqual([paper.holds(), paper.told()], [True, f"fate {fates[name]}"])
            for is_named, told in [(True, "never"), (False, "sure")]:
                many = case.fewest(name, is_named=is_named)
                self.assertEqual(many == case.least, fates[name] != told)
        counts = case.counts(*names)
        self.assertIs(counts.holds(), True)
        things = [name for name in names if book.seat(name).IS_LOOKED_AT]
        written = [name for name in things if fates[name] != "never"]
        self.assertEqual(case.write(), written)
        numbers = {name: book.seat(name).number for name in things}
        wanted = [numbers[name] for name in written]
        self.assertEqual(case.letter_to_owners(), letter_for(wanted, [numbers[n] for n in things if n not in written]))
        found = lumps(case)
        self.assertEqual(sorted(name for lump in found for name in [*lump.names(), *lump.pegs()]),
                         sorted(name for name in names if fates[name] == "perhaps"))
        self.assertEqual(looks(case), sum(lump.looks() for lump in found))
        self.assertEqual(len(plan(case)), looks(case))
        for lump in found:
            row = [*lump.names(), *lump.pegs()]
            for one, other in zip(row, row[1:]):
                pair = exchange(case, one, other)
                self.assertTrue(all(story.holds() and len(story.false_records()) == case.least for story in pair))
                self.assertEqual(set(pair[0].named()) ^ set(pair[1].named()), {one, other})
        # Each answer to a look of the plan, one after the other; behind all of them the things are settled.
        chance = random.Random(len(book.steps()))
        answers = []
        for name in plan(case):
            fate = fates_after(case, *answers)[name]
            answers.append((name, chance.random() < 0.5 if fate == "perhaps" else fate == "sure"))
        self.assertNotIn("perhaps", [fate for name, fate in fates_after(case, *answers).items() if name in things])
        return case

    def seats(self, chance, pegs=0.2):
        names = [chr(ord("a") + at) for at in range(24)]
        return [Peg(name) if chance.random() < pegs else Thing(name, at) for at, name in enumerate(names)]

    def test_random_records(self):
        chance = random.Random(136)
        for hours, shops in [(20, 2), (120, 4), (10 ** 6, 3)]:
            case = self.check(great_book(chance, hours, shops))
            self.assertGreater(case.least, 0)

    def test_shops_full_of_meetings(self):
        """All seats meet again and again, in one shop or in many, with looks between."""
        chance = random.Random(137)
        for shops in [1, 5]:
            seats = self.seats(chance, 0.1)
            names = [seat.label for seat in seats]
            records = [("stay", name, "abcde"[at % shops], 0, 200) for at, name in enumerate(names)]
            records += [("given", name, chance.choice([7, 3, 3])) for name in names]
            things = [seat.label for seat in seats if seat.IS_LOOKED_AT]
            records += [("look", hour * 2, chance.choice(things), chance.choice([7, 3, 3, 3])) for hour in range(72)]
            case = self.check(Book(seats, records))
            self.assertGreater(len(case.book.steps()), 70 * shops)

    def test_looks_alone(self):
        seats = [Thing(chr(ord("a") + at), at) for at in range(24)]
        records = [("look", hour, seats[hour % 24].label, 7 if hour // 24 < 2 else 3) for hour in range(120)]
        case = self.check(Book(seats, records))
        self.assertEqual([case.least, case.write(), looks(case)], [48, [], 0])
        self.assertEqual([case.record_fate(at) for at in (0, 47, 48, 119)], ["always", "always", "never", "never"])

    def test_nothing_is_told(self):
        seats = [Thing(chr(ord("a") + at), at) for at in range(24)]
        case = self.check(Book(seats))
        self.assertEqual([case.least, looks(case), len(plan(case))], [0, 24, 24])
        self.assertEqual(case.counts(*case.book.names()).told(), "counts 0 to 24")


if __name__ == "__main__":
    unittest.main()
