"""Cases: held against the least costs of all states of small books, and their papers against what a paper must be."""

import random
import unittest

from lumplooks.books import Book
from lumplooks.cases import Case
from lumplooks.errors import InvalidNumber, UnknownName
from lumplooks.letters import Letter, letter_for
from lumplooks.papers import Counts, Fate, Least
from lumplooks.prices import Prices
from lumplooks.seats import Peg, Thing
from lumplooks.stories import Story
from tests.helpers import wrong_values
from tests.samples import LETTER, all_stories, false_in, random_book
from tests.tables import Tables, is_best, random_cases, some_names

EMPTY = Case(Book(), LETTER)
# Two things that meet, a third one that was seen to have a named part in spite of what it was given, and a peg.
BOOK = Book([Thing("a", 11), Thing("b", 12), Thing("c", 13), Peg("p")], [
    ("given", "a", 7), ("given", "b", 3), ("stay", "a", "hall", 0, 2), ("stay", "b", "hall", 1, 2),
    ("given", "c", 3), ("look", 1, "c", 8), ("look", 2, "c", 7),
])
CASE = Case(BOOK, LETTER)
ORDER = ["a", "b", "c", "p"]


class PlainTest(unittest.TestCase):
    def test_properties(self):
        self.assertIs(CASE.book, BOOK)
        self.assertIs(CASE.letter, LETTER)
        self.assertEqual([CASE.least, repr(CASE), repr(EMPTY)], [1, "Case(4 seats, least 1)", "Case(0 seats, least 0)"])
        self.assertEqual(repr(Case(Book([Thing("a", 1)]), LETTER)), "Case(1 seats, least 0)")
        named = Case(letter=LETTER, book=BOOK)
        self.assertEqual([named.least, named.fates()], [1, CASE.fates()])
        for word in ["book", "letter", "least"]:
            with self.assertRaises(AttributeError):
                setattr(CASE, word, 0)

    def test_answers_of_one_book(self):
        self.assertEqual(CASE.fates(), {"a": "perhaps", "b": "perhaps", "c": "sure", "p": "perhaps"})
        self.assertEqual([CASE.record_fate(at) for at in range(7)], ["never"] * 4 + ["always"] + ["never"] * 2)
        self.assertEqual([CASE.write(), CASE.letter_to_owners()], [["a", "b", "c"], "11-13"])
        self.assertEqual([CASE.fewest(name) for name in ORDER], [1, 1, 1, 1])
        self.assertEqual([CASE.fewest(name, is_named=False) for name in ORDER], [1, 1, 2, 1])
        self.assertEqual(CASE.counts("a", "b").told(), "counts 1 to 1")
        self.assertEqual(CASE.counts(*ORDER).told(), "counts 2 to 3")
        self.assertEqual(CASE.best().told(), "least 1")

    def test_empty_book(self):
        self.assertEqual([EMPTY.least, EMPTY.fates(), EMPTY.write(), EMPTY.letter_to_owners()], [0, {}, [], "none"])
        self.assertIs(EMPTY.best().holds(), True)
        self.assertIs(EMPTY.counts().holds(), True)
        self.assertEqual(EMPTY.counts().told(), "counts 0 to 0")

    def test_letters(self):
        for letter, fates in [(Letter(), "never never never"), (Letter((0, 10)), "sure sure sure")]:
            book = Book([Thing("a", 1), Peg("b"), Thing("c", 2)], [
                ("given", "a", 7), ("mixed", ("b", "c"), (3, 3)), ("stay", "b", "hall", 0, 1), ("stay", "a", "hall", 0, 1),
            ])
            case = Case(book, letter)
            self.assertEqual(" ".join(case.fates().values()), fates)
            self.assertTrue(all(case.fate(name).holds() for name in ["a", "b", "c"]))
            self.assertIs(case.best().holds(), True)

    def test_asked_twice(self):
        one, other = CASE.best(), CASE.best()
        self.assertEqual([one.story, one.prices.rows()], [other.story, other.prices.rows()])
        one, other = CASE.fate("a"), CASE.fate("a")
        self.assertEqual([one.low_story, one.high_story], [other.low_story, other.high_story])
        fates = CASE.fates()
        fates["a"] = "sure"
        fates["x"] = "sure"
        self.assertEqual(CASE.fates(), {"a": "perhaps", "b": "perhaps", "c": "sure", "p": "perhaps"})
        CASE.write().append("x")
        self.assertEqual(CASE.write(), ["a", "b", "c"])
        CASE.best().prices.rows()[0].clear()
        CASE.best().story.states()[0].clear()
        self.assertIs(CASE.best().holds(), True)


class ErrorsTest(unittest.TestCase):
    def test_unknown_names(self):
        for value in [*wrong_values(), "x", "A", "aa", ("a",), ["a"]]:
            asked = [
                lambda: CASE.counts(value), lambda: CASE.counts("a", value, "y"), lambda: CASE.fate(value),
                lambda: CASE.fewest(value), lambda: CASE.fewest(value, is_named=False), lambda: CASE.fate(name=value),
            ]
            for ask in asked:
                with self.assertRaises(UnknownName) as caught:
                    ask()
                self.assertTrue(caught.exception.name == value)

    def test_first_unknown_name(self):
        with self.assertRaises(UnknownName) as caught:
            CASE.counts("a", "a", "y", None, "z")
        self.assertEqual(caught.exception.name, "y")

    def test_wrong_indexes(self):
        for value in [*wrong_values(), 7, "0", 8, 120]:
            with self.assertRaises(InvalidNumber) as caught:
                CASE.record_fate(value)
            self.assertTrue(caught.exception.given == value)
        for value in [0, *wrong_values()]:
            with self.assertRaises(InvalidNumber):
                EMPTY.record_fate(value)
        self.assertEqual(CASE.record_fate(index=6), "never")

    def test_keywords(self):
        with self.assertRaises(TypeError):
            CASE.fewest("a", False)
        self.assertEqual(CASE.fewest(name="c", is_named=False), 2)


class StoriesTest(unittest.TestCase):
    def test_all_stories_of_small_books(self):
        chance = random.Random(81)
        for _ in range(150):
            book = random_book(chance, 3, 8)
            many = [len(false_in(book, LETTER, story)) for story in all_stories(book, LETTER)]
            case = Case(book, LETTER)
            self.assertEqual(case.least, min(many))
            self.assertEqual(Tables(book, LETTER).least, min(many))

    def test_least_fates_and_records(self):
        seen = set()
        for case, tables in [*random_cases(82, 120, 8, 32), *random_cases(92, 120, 3, 30)]:
            self.assertEqual(case.least, tables.least)
            self.assertEqual(list(case.fates().items()), list(tables.fates().items()))
            for at in range(len(case.book.records())):
                self.assertEqual(case.record_fate(at), tables.record_fate(at))
                seen.add((case.book.records()[at][0], case.record_fate(at)))
        told = {(word, fate) for word in ["given", "look", "swap"] for fate in ["always", "sometimes", "never"]}
        self.assertEqual(seen, {*told, ("mixed", "never"), ("stay", "never")})

    def test_fewest(self):
        found = set()
        for case, tables in random_cases(83, 150, 7, 24):
            for name in case.book.names():
                for is_named in [True, False]:
                    many = case.fewest(name, is_named=is_named)
                    self.assertEqual(many, tables.fewest(name, is_named))
                    found.add("none" if many is None else many - case.least)
                self.assertEqual(case.fewest(name), case.fewest(name, is_named=True))
        self.assertTrue({"none", 0, 1, 2} <= found)

    def test_fewest_without_a_story(self):
        case = Case(Book([Thing("a", 1), Peg("b")], [("mixed", ("a", "b"), (3, 4)), ("look", 5, "a", 7)]), LETTER)
        self.assertEqual([case.least, case.fewest("a"), case.fewest("a", is_named=False)], [1, None, 1])
        case = Case(Book([Thing("a", 1), Peg("b")], [("mixed", ("a", "b"), (7, 8)), ("look", 5, "a", 3)]), LETTER)
        self.assertEqual([case.least, case.fewest("a"), case.fewest("a", is_named=False)], [1, 1, None])


class PapersTest(unittest.TestCase):
    def check_story(self, case, story):
        self.assertIsInstance(story, Story)
        self.assertTrue(is_best(case, story))

    def test_best(self):
        for case, _ in random_cases(84, 150, 8, 32):
            paper = case.best()
            self.assertIsInstance(paper, Least)
            self.assertIs(paper.holds(), True)
            self.assertEqual([paper.many_false(), paper.told()], [case.least, f"least {case.least}"])
            self.check_story(case, paper.story)
            self.assertIs(paper.prices.is_whole(), True)
            self.assertEqual(paper.prices.bound(LETTER), (len(case.book) + 1) * case.least)

    def test_fate(self):
        seen = set()
        for case, tables in random_cases(85, 100, 7, 24):
            for name, word in tables.fates().items():
                paper = case.fate(name)
                self.assertIsInstance(paper, Fate)
                self.assertIs(paper.holds(), True)
                self.assertEqual([paper.told(), paper.label, paper.names()], [f"fate {word}", name, [name]])
                self.assertEqual([paper.low(), paper.high()], [int(word == "sure"), int(word != "never")])
                self.check_story(case, paper.low_story)
                self.check_story(case, paper.high_story)
                seen.add(word)
        self.assertEqual(seen, {"sure", "perhaps", "never"})

    def test_counts_of_all_names_of_small_books(self):
        for case, tables in random_cases(86, 60, 4, 12):
            for names in some_names(case.book.names(), 4):
                counted = tables.counted(names)
                paper = case.counts(*names)
                self.assertIsInstance(paper, Counts)
                self.assertIs(paper.holds(), True)
                self.assertEqual([paper.low(), paper.high()], [min(counted), max(counted)])
                self.assertEqual(sorted(counted), list(range(min(counted), max(counted) + 1)))
                self.assertEqual(paper.told(), f"counts {min(counted)} to {max(counted)}")
                self.check_story(case, paper.low_story)
                self.check_story(case, paper.high_story)

    def test_counts_of_great_books(self):
        chance = random.Random(87)
        for case, tables in random_cases(88, 100, 8, 32):
            names = chance.sample(case.book.names(), chance.randint(0, len(case.book)))
            counted = tables.counted(names)
            paper = case.counts(*names)
            self.assertEqual([paper.holds(), paper.low(), paper.high()], [True, min(counted), max(counted)])

    def test_names_of_counts(self):
        for names, wanted in [
            ([], []), (["b"], ["b"]), (["c", "a", "c", "b", "a"], ["c", "a", "b"]), (ORDER[::-1] * 2, ORDER[::-1]),
        ]:
            paper = CASE.counts(*names)
            self.assertEqual(paper.names(), wanted)
            self.assertIs(paper.holds(), True)
        self.assertEqual(CASE.counts().told(), "counts 0 to 0")

    def test_papers_with_the_prices_of_a_case(self):
        """The papers of a case hold for its own book, letter and name alone."""
        paper = CASE.fate("c")
        parts = [paper.low_story, paper.high_story, paper.low_prices, paper.high_prices]
        self.assertIs(Fate(BOOK, LETTER, "c", *parts).holds(), True)
        for name in ["a", "b", "p", "x", None, ["c"], *wrong_values()]:
            self.assertIs(Fate(BOOK, LETTER, name, *parts).holds(), False)
        self.assertIs(Fate(BOOK, Letter((7, 9)), "c", *parts).holds(), False)
        self.assertIs(Fate(BOOK.without(0), LETTER, "c", *parts).holds(), False)
        for at in [2, 3]:
            rows = parts[at].rows()
            for wrong in [[*rows, rows[0]], rows[:-1], [*rows[:-1], [*rows[-1][:-1], None]], None, "x"]:
                bent = [*parts[:at], Prices(BOOK, wrong), *parts[at + 1:]]
                self.assertIs(Fate(BOOK, LETTER, "c", *bent).holds(), False)

    def test_bent_prices(self):
        """Prices that are far off give no bound that is met; the bound is never more than the least."""
        chance = random.Random(89)
        kept = []
        for case, _ in random_cases(90, 30, 5, 15):
            paper = case.best()
            if not len(case.book):
                continue
            rows = paper.prices.rows()
            row = chance.randrange(len(rows))
            rows[row][chance.randrange(len(case.book))] += 10 ** 6
            bent = Least(case.book, LETTER, paper.story, Prices(case.book, rows))
            bound = bent.prices.bound(LETTER)
            self.assertLessEqual(bound, (len(case.book) + 1) * case.least)
            self.assertIs(bent.holds(), bound == (len(case.book) + 1) * case.least)
            kept.append(bent.holds())
            for at in range(len(paper.story.states())):
                states = paper.story.states()
                name = chance.choice(case.book.names())
                states[at] = [other for other in case.book.names() if (other in states[at]) is not (other == name)]
                story = Story(case.book, LETTER, states)
                wanted = story.holds() and len(story.false_records()) == case.least
                self.assertIs(Least(case.book, LETTER, story, paper.prices).holds(), wanted)
        self.assertGreater(kept.count(False), 15)


class OwnersTest(unittest.TestCase):
    def test_write(self):
        for case, tables in random_cases(91, 80, 8, 24):
            things = case.book.names("thing")
            written = [name for name in things if tables.fates()[name] != "never"]
            self.assertEqual(case.write(), written)
            numbers = {name: case.book.seat(name).number for name in things}
            others = [numbers[name] for name in things if name not in written]
            self.assertEqual(case.letter_to_owners(), letter_for([numbers[name] for name in written], others))

    def test_letters_of_one_book(self):
        seats = [Thing("a", 5), Peg("p"), Thing("b", 6), Thing("c", 7), Thing("d", 4)]
        for never, text in [("", "4-7"), ("b", "4-5; 7"), ("abcd", "none"), ("acd", "6"), ("ad", "6-7")]:
            book = Book(seats, [("given", name, 3 if name in never else 7) for name in "abcd"])
            self.assertEqual(Case(book, LETTER).letter_to_owners(), text)
            self.assertEqual(Case(book, LETTER).write(), [name for name in "abcd" if name not in never])


if __name__ == "__main__":
    unittest.main()
