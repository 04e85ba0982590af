import unittest

from lumplooks.books import Book
from lumplooks.letters import Letter
from lumplooks.papers import Counts, Fate, Least, Paper
from lumplooks.prices import Prices
from lumplooks.seats import Peg, Thing
from lumplooks.stories import Story
from tests.helpers import wrong_values

LETTER = Letter((7, 7))
OTHER_LETTER = Letter((7, 8))

# Two things that meet: one of them bears the named part, and no record need be false. K is 3.
TWO = Book([Thing("a", 1), Thing("b", 2)], [
    ("given", "a", 7), ("given", "b", 3), ("stay", "a", "hall", 0, 2), ("stay", "b", "hall", 1, 2),
])
KEPT = Story(TWO, LETTER, [["a"], ["a"]])
MOVED = Story(TWO, LETTER, [["a"], ["b"]])
# One false record more than is needed.
BOTH = Story(TWO, LETTER, [["a", "b"], ["a", "b"]])
NONE = Story(TWO, LETTER, [[], []])
FLAT = Prices(TWO, [[0, 0], [0, 0]])

# A thing of which two looks say that it has no named part, against what it was given. K is 2.
LOOKED = Book([Thing("a", 1)], [("given", "a", 7), ("look", 5, "a", 3), ("look", 6, "a", 4)])
EMPTY = Story(LOOKED, LETTER, [[], [], []])
FULL = Story(LOOKED, LETTER, [["a"], ["a"], ["a"]])
STEEP = Prices(LOOKED, [[-2], [0], [0]])

# A book that differs by what no story tells.
OTHER_TWO = Book([Thing("a", 1), Thing("b", 3)], TWO.records())


def same_story(story, book, letter):
    return Story(book, letter, story.states())


class BaseTest(unittest.TestCase):
    def test_paper(self):
        paper = Paper(TWO, LETTER)
        self.assertIs(paper.book, TWO)
        self.assertIs(paper.letter, LETTER)
        self.assertEqual([paper.told(), repr(paper)], ["paper", "Paper(paper)"])
        self.assertIs(paper.holds(), False)
        self.assertIs(Paper(letter=LETTER, book=TWO).book, TWO)

    def test_kinds_and_bases(self):
        self.assertEqual([made.KIND for made in [Paper, Least, Counts, Fate]], ["paper", "least", "counts", "fate"])
        self.assertEqual([Least.__bases__, Counts.__bases__, Fate.__bases__], [(Paper,), (Paper,), (Counts,)])

    def test_properties_cannot_be_assigned(self):
        for paper in [Paper(TWO, LETTER), Least(TWO, LETTER, KEPT, FLAT)]:
            for word in ["book", "letter"]:
                with self.assertRaises(AttributeError):
                    setattr(paper, word, 5)


class LeastTest(unittest.TestCase):
    def test_properties(self):
        paper = Least(TWO, LETTER, KEPT, FLAT)
        self.assertIs(paper.book, TWO)
        self.assertIs(paper.letter, LETTER)
        self.assertIs(paper.story, KEPT)
        self.assertIs(paper.prices, FLAT)
        self.assertEqual([paper.KIND, repr(paper)], ["least", "Paper(least)"])
        self.assertIs(Least(prices=FLAT, story=KEPT, letter=LETTER, book=TWO).holds(), True)

    def test_told(self):
        papers = [
            Least(TWO, LETTER, KEPT, FLAT), Least(TWO, LETTER, BOTH, FLAT), Least(LOOKED, LETTER, EMPTY, STEEP),
            Least(LOOKED, LETTER, FULL, STEEP),
        ]
        self.assertEqual([paper.many_false() for paper in papers], [0, 1, 1, 2])
        self.assertEqual([paper.told() for paper in papers], ["least 0", "least 1", "least 1", "least 2"])

    def test_holds(self):
        self.assertIs(Least(TWO, LETTER, KEPT, FLAT).holds(), True)
        self.assertIs(Least(TWO, LETTER, MOVED, FLAT).holds(), True)
        self.assertIs(Least(LOOKED, LETTER, EMPTY, STEEP).holds(), True)
        self.assertIs(Least(Book(), LETTER, Story(Book(), LETTER, [[]]), Prices(Book(), [[]])).holds(), True)

    def test_equal_books_and_letters_are_enough(self):
        book, letter = Book(TWO.seats(), TWO.records()), Letter((7, 7))
        self.assertIs(Least(book, letter, same_story(KEPT, TWO, LETTER), Prices(TWO, FLAT.rows())).holds(), True)

    def test_more_false_records_than_needed(self):
        self.assertIs(Least(TWO, LETTER, BOTH, FLAT).holds(), False)
        self.assertIs(Least(LOOKED, LETTER, FULL, STEEP).holds(), False)

    def test_prices_whose_bound_is_less(self):
        for rows in [[[0], [0], [0]], [[-1], [0], [0]], [[-2], [1], [0]], [[-2], [0], [-1]], [[-3], [0], [0]]]:
            self.assertIs(Least(LOOKED, LETTER, EMPTY, Prices(LOOKED, rows)).holds(), False, rows)

    def test_prices_that_are_not_whole(self):
        for rows in [[[-2], [0]], [[-2], [0], [0], [0]], [[-2], [0], ["0"]], [[-2], [False], [0]], 5, [], *wrong_values()]:
            self.assertIs(Least(LOOKED, LETTER, EMPTY, Prices(LOOKED, rows)).holds(), False)

    def test_stories_that_do_not_hold(self):
        for states in [[["a"], []], [["a"]], [["a"], ["a"], ["a"]], [["a"], ["x"]], [["b"], ["a", "b"]], *wrong_values()]:
            self.assertIs(Least(TWO, LETTER, Story(TWO, LETTER, states), FLAT).holds(), False)

    def test_other_books_and_letters(self):
        self.assertIs(Least(OTHER_TWO, LETTER, KEPT, FLAT).holds(), False)
        self.assertIs(Least(TWO, LETTER, same_story(KEPT, OTHER_TWO, LETTER), FLAT).holds(), False)
        self.assertIs(Least(TWO, LETTER, KEPT, Prices(OTHER_TWO, FLAT.rows())).holds(), False)
        self.assertIs(Least(TWO, LETTER, same_story(KEPT, TWO, OTHER_LETTER), FLAT).holds(), False)
        self.assertIs(Least(TWO, OTHER_LETTER, KEPT, FLAT).holds(), False)
        self.assertIs(Least(TWO, OTHER_LETTER, same_story(KEPT, TWO, OTHER_LETTER), FLAT).holds(), True)

    def test_prices_are_for_the_letter(self):
        # With 3 and 4 in the letter, too, no record need be false.
        letter = Letter((0, 9))
        flat = Prices(LOOKED, [[0], [0], [0]])
        self.assertIs(Least(LOOKED, letter, same_story(FULL, LOOKED, letter), flat).holds(), True)
        self.assertIs(Least(LOOKED, letter, same_story(EMPTY, LOOKED, letter), flat).holds(), False)

    def test_the_list_is_not_counted(self):
        # The bound is 0 without counted seats, and -1 or 1 with them.
        book = Book([Thing("a", 1)])
        story = Story(book, LETTER, [["a"]])
        self.assertIs(Least(book, LETTER, story, Prices(book, [[0]])).holds(), True)
        self.assertIs(Least(book, LETTER, story, Prices(book, [[1]])).holds(), False)


UP, DOWN = Prices(TWO, [[1, 1], [1, 1]]), Prices(TWO, [[-1, -1], [-1, -1]])


class CountsTest(unittest.TestCase):
    def test_properties(self):
        paper = Counts(TWO, LETTER, ["a"], MOVED, KEPT, FLAT, UP)
        self.assertIs(paper.book, TWO)
        self.assertIs(paper.letter, LETTER)
        self.assertIs(paper.low_story, MOVED)
        self.assertIs(paper.high_story, KEPT)
        self.assertIs(paper.low_prices, FLAT)
        self.assertIs(paper.high_prices, UP)
        self.assertEqual([paper.KIND, repr(paper)], ["counts", "Paper(counts)"])
        named = Counts(
            high_prices=FLAT, low_prices=FLAT, high_story=KEPT, low_story=MOVED, names=["a"], letter=LETTER, book=TWO,
        )
        self.assertIs(named.holds(), True)

    def test_names(self):
        for names in [[], ["a"], ["b", "a"], ["a", "a"], [5, None]]:
            self.assertEqual(Counts(TWO, LETTER, names, KEPT, KEPT, FLAT, FLAT).names(), names)
            self.assertEqual(Counts(TWO, LETTER, tuple(names), KEPT, KEPT, FLAT, FLAT).names(), names)
        for value in [5, "ab", *wrong_values()]:
            if not isinstance(value, (list, tuple)):
                self.assertIs(Counts(TWO, LETTER, value, KEPT, KEPT, FLAT, FLAT).names(), value)
            else:
                self.assertTrue(Counts(TWO, LETTER, value, KEPT, KEPT, FLAT, FLAT).names() == list(value))

    def test_names_are_copied_both_ways(self):
        names = ["a", "b"]
        paper = Counts(TWO, LETTER, names, KEPT, KEPT, DOWN, UP)
        names.append("x")
        paper.names().clear()
        self.assertEqual(paper.names(), ["a", "b"])
        self.assertIs(paper.holds(), True)
        inner = ["a"]
        paper = Counts(TWO, LETTER, [inner], KEPT, KEPT, FLAT, FLAT)
        inner.append("x")
        paper.names()[0].append("y")
        self.assertEqual(paper.names(), [["a"]])

    def test_low_high_and_told(self):
        for names, low, high in [
            ([], 0, 0), (["a"], 0, 1), (["b"], 1, 0), (["a", "b"], 1, 1), (["b", "a"], 1, 1), (("a",), 0, 1),
        ]:
            paper = Counts(TWO, LETTER, names, MOVED, KEPT, FLAT, FLAT)
            self.assertEqual([paper.low(), paper.high()], [low, high])
            self.assertEqual(paper.told(), f"counts {low} to {high}")
        paper = Counts(TWO, LETTER, ["a", "b"], NONE, BOTH, FLAT, FLAT)
        self.assertEqual(paper.told(), "counts 0 to 2")

    def test_holds(self):
        for names, low_story, high_story, low_prices, high_prices in [
            ([], KEPT, MOVED, FLAT, FLAT), (["a"], MOVED, KEPT, FLAT, FLAT), (["b"], KEPT, MOVED, FLAT, FLAT),
            (["a", "b"], KEPT, KEPT, DOWN, UP), (["b", "a"], MOVED, KEPT, DOWN, UP), (("a", "b"), MOVED, MOVED, DOWN, UP),
            (["a"], MOVED, KEPT, FLAT, UP),
        ]:
            paper = Counts(TWO, LETTER, names, low_story, high_story, low_prices, high_prices)
            self.assertIs(paper.holds(), True, names)

    def test_holds_with_false_records(self):
        high = Prices(LOOKED, [[-2], [0], [1]])
        for names in [[], ["a"]]:
            self.assertIs(Counts(LOOKED, LETTER, names, EMPTY, EMPTY, STEEP, high).holds(), True)
        self.assertIs(Counts(LOOKED, LETTER, ["a"], EMPTY, EMPTY, STEEP, STEEP).holds(), False)
        # One record is false, whether the part is named or not.
        book = Book([Thing("a", 1)], [("given", "a", 7), ("look", 5, "a", 3)])
        empty, full = Story(book, LETTER, [[], []]), Story(book, LETTER, [["a"], ["a"]])
        prices = Prices(book, [[-2], [0]])
        self.assertIs(Counts(book, LETTER, ["a"], empty, full, prices, prices).holds(), True)
        self.assertIs(Counts(book, LETTER, ["a"], full, empty, prices, prices).holds(), False)
        self.assertIs(Counts(book, LETTER, ["a"], empty, empty, prices, prices).holds(), False)
        self.assertIs(Counts(book, LETTER, ["a"], full, full, prices, prices).holds(), False)
        self.assertIs(Counts(book, LETTER, ["a"], empty, full, Prices(book, [[0], [0]]), prices).holds(), False)
        self.assertIs(Counts(book, LETTER, ["a"], empty, full, prices, Prices(book, [[0], [0]])).holds(), False)

    def test_wrong_names(self):
        for names in [["x"], ["a", "x"], ["a", "a"], ["a", "b", "a"], "a", "ab", 5, [5], [["a"]], [("a",)], *wrong_values()]:
            if names not in ([], ()):
                self.assertIs(Counts(TWO, LETTER, names, KEPT, KEPT, FLAT, FLAT).holds(), False)
                self.assertIs(Counts(TWO, LETTER, names, MOVED, KEPT, FLAT, FLAT).holds(), False)
                self.assertIs(Counts(TWO, LETTER, names, KEPT, KEPT, DOWN, UP).holds(), False)

    def test_doubled_names_do_not_hold_though_the_numbers_fit(self):
        self.assertIs(Counts(TWO, LETTER, ["b"], KEPT, MOVED, FLAT, FLAT).holds(), True)
        book = Book([Thing("a", 1)], [("given", "a", 3)])
        story, prices = Story(book, LETTER, [[]]), Prices(book, [[0]])
        high = Prices(book, [[1]])
        self.assertIs(Counts(book, LETTER, ["a"], story, story, prices, high).holds(), True)
        self.assertIs(Counts(book, LETTER, ["a", "a"], story, story, prices, high).holds(), False)

    def test_numbers_that_are_not_the_least_and_the_greatest(self):
        self.assertIs(Counts(TWO, LETTER, ["a"], KEPT, KEPT, FLAT, FLAT).holds(), False)
        self.assertIs(Counts(TWO, LETTER, ["a"], MOVED, MOVED, FLAT, FLAT).holds(), False)
        self.assertIs(Counts(TWO, LETTER, ["a"], KEPT, MOVED, FLAT, FLAT).holds(), False)

    def test_prices_whose_bounds_are_less(self):
        self.assertIs(Counts(TWO, LETTER, ["a", "b"], KEPT, KEPT, FLAT, UP).holds(), False)
        self.assertIs(Counts(TWO, LETTER, ["a", "b"], KEPT, KEPT, DOWN, FLAT).holds(), False)
        self.assertIs(Counts(TWO, LETTER, ["a", "b"], KEPT, KEPT, UP, DOWN).holds(), False)

    def test_prices_that_are_not_whole(self):
        for rows in [[[0, 0]], [[0, 0], [0]], [[0, 0], [0, "0"]], [[0, 0], [0, False]], [], *wrong_values()]:
            wrong = Prices(TWO, rows)
            self.assertIs(Counts(TWO, LETTER, ["a"], MOVED, KEPT, wrong, FLAT).holds(), False)
            self.assertIs(Counts(TWO, LETTER, ["a"], MOVED, KEPT, FLAT, wrong).holds(), False)

    def test_stories_that_do_not_hold(self):
        for states in [[["a"], []], [["a"]], [["a"], ["b"], ["b"]], [["a"], ["x"]], *wrong_values()]:
            wrong = Story(TWO, LETTER, states)
            self.assertIs(Counts(TWO, LETTER, ["a"], wrong, KEPT, FLAT, FLAT).holds(), False)
            self.assertIs(Counts(TWO, LETTER, ["a"], MOVED, wrong, FLAT, FLAT).holds(), False)

    def test_unlike_numbers_of_false_records(self):
        # Each bound would fit the number of false records of its own story alone.
        self.assertIs(Counts(TWO, LETTER, ["a"], MOVED, BOTH, FLAT, FLAT).holds(), False)
        self.assertIs(Counts(TWO, LETTER, ["a"], NONE, KEPT, FLAT, FLAT).holds(), False)
        self.assertIs(Counts(TWO, LETTER, [], KEPT, BOTH, FLAT, FLAT).holds(), False)
        self.assertIs(Counts(TWO, LETTER, [], BOTH, KEPT, FLAT, FLAT).holds(), False)
        self.assertIs(Counts(TWO, LETTER, [], BOTH, BOTH, FLAT, FLAT).holds(), False)

    def test_other_books_and_letters(self):
        right = [["a"], MOVED, KEPT, FLAT, FLAT]
        self.assertIs(Counts(TWO, LETTER, *right).holds(), True)
        self.assertIs(Counts(OTHER_TWO, LETTER, *right).holds(), False)
        self.assertIs(Counts(TWO, OTHER_LETTER, *right).holds(), False)
        for at in [1, 2]:
            for book, letter in [(OTHER_TWO, LETTER), (TWO, OTHER_LETTER)]:
                wrong = [*right[:at], same_story(right[at], book, letter), *right[at + 1:]]
                self.assertIs(Counts(TWO, LETTER, *wrong).holds(), False)
        for at in [3, 4]:
            wrong = [*right[:at], Prices(OTHER_TWO, FLAT.rows()), *right[at + 1:]]
            self.assertIs(Counts(TWO, LETTER, *wrong).holds(), False)
        book, letter = Book(tuple(TWO.seats()), tuple(TWO.records())), Letter((7, 7))
        self.assertIs(Counts(book, letter, *right).holds(), True)


class FateTest(unittest.TestCase):
    def fate(self, records, name, low, high, low_prices, high_prices):
        """A fate in a book of one thing and one peg, which have no steps."""
        book = Book([Thing("a", 1), Peg("p")], records)
        stories = [Story(book, LETTER, [names]) for names in [low, high]]
        return Fate(book, LETTER, name, *stories, Prices(book, [low_prices]), Prices(book, [high_prices]))

    def test_properties(self):
        paper = Fate(TWO, LETTER, "a", MOVED, KEPT, FLAT, UP)
        self.assertEqual([paper.label, paper.names(), paper.KIND, repr(paper)], ["a", ["a"], "fate", "Paper(fate)"])
        self.assertIs(paper.book, TWO)
        self.assertIs(paper.letter, LETTER)
        self.assertIs(paper.low_story, MOVED)
        self.assertIs(paper.high_story, KEPT)
        self.assertIs(paper.low_prices, FLAT)
        self.assertIs(paper.high_prices, UP)
        self.assertEqual([paper.low(), paper.high()], [0, 1])
        named = Fate(
            high_prices=FLAT, low_prices=FLAT, high_story=KEPT, low_story=MOVED, name="a", letter=LETTER, book=TWO,
        )
        self.assertIs(named.holds(), True)

    def test_label_is_any_value(self):
        for value in [5, "x", *wrong_values()]:
            paper = Fate(TWO, LETTER, value, KEPT, KEPT, FLAT, FLAT)
            self.assertTrue(paper.label == value)
            self.assertTrue(paper.names() == [value])
            self.assertIs(paper.holds(), False)

    def test_label_is_copied(self):
        name = ["a"]
        paper = Fate(TWO, LETTER, name, KEPT, KEPT, FLAT, FLAT)
        name.append("b")
        paper.label.append("c")
        paper.names()[0].append("d")
        self.assertEqual([paper.label, paper.names()], [["a"], [["a"]]])

    def test_told(self):
        for low, high, word in [([], [], "never"), (["a"], ["a"], "sure"), ([], ["a"], "perhaps"), (["p"], ["p"], "never")]:
            paper = self.fate([], "a", low, high, [0, 0], [0, 0])
            self.assertEqual(paper.told(), f"fate {word}")

    def test_sure(self):
        for low_price, high_price in [(-1, 1), (-2, 1), (-1, 0), (-1, 2)]:
            paper = self.fate([("given", "a", 7)], "a", ["a"], ["a"], [low_price, 0], [high_price, 0])
            self.assertEqual([paper.told(), paper.holds()], ["fate sure", high_price < 2])
        for low, high, low_prices, high_prices in [
            (["a"], ["a"], [0, 0], [1, 0]), ([], ["a"], [-1, 0], [1, 0]), (["a"], [], [-1, 0], [1, 0]),
            ([], [], [-1, 0], [1, 0]),
        ]:
            self.assertIs(self.fate([("given", "a", 7)], "a", low, high, low_prices, high_prices).holds(), False)

    def test_never(self):
        paper = self.fate([("given", "a", 3)], "a", [], [], [0, 0], [1, 0])
        self.assertEqual([paper.told(), paper.holds()], ["fate never", True])
        self.assertIs(self.fate([("given", "a", 3)], "a", [], [], [0, 0], [0, 0]).holds(), False)
        self.assertIs(self.fate([("given", "a", 3)], "a", [], ["a"], [0, 0], [0, 0]).holds(), False)

    def test_perhaps(self):
        paper = self.fate([("given", "a", 3)], "p", [], ["p"], [0, 0], [0, 0])
        self.assertEqual([paper.told(), paper.holds()], ["fate perhaps", True])
        self.assertIs(self.fate([("given", "a", 3)], "p", [], [], [0, 0], [0, 0]).holds(), False)
        self.assertIs(self.fate([("given", "a", 3)], "p", ["p"], ["p"], [0, 0], [0, 0]).holds(), False)
        self.assertIs(Fate(TWO, LETTER, "a", MOVED, KEPT, FLAT, FLAT).holds(), True)
        self.assertIs(Fate(TWO, LETTER, "a", KEPT, MOVED, FLAT, FLAT).holds(), False)
        self.assertIs(Fate(OTHER_TWO, LETTER, "a", MOVED, KEPT, FLAT, FLAT).holds(), False)


if __name__ == "__main__":
    unittest.main()
