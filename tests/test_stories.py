import random
import unittest
from itertools import combinations

from lumplooks.books import Book
from lumplooks.errors import NothingLeft
from lumplooks.letters import Letter
from lumplooks.seats import Peg, Thing
from lumplooks.stories import Story
from tests.helpers import nested, wrong_values
from tests.samples import LETTER, beginnings, exchanged, false_in, listed, nexts, random_book, random_story

SEATS = [Thing("b", 1), Peg("a"), Thing("c", 2)]
HALL = [("stay", "a", "hall", 0, 5), ("stay", "b", "hall", 0, 5)]


def is_story(book, letter, states):
    """Whether some lists of names are a story: by all that can follow, and by all ways to write a state."""
    sets = [frozenset(state) for state in states]
    if listed(book, sets) != states or len(sets) != len(book.steps()) + 1 or sets[0] not in beginnings(book, letter):
        return False
    return all(after in nexts(step, before) for step, before, after in zip(book.steps(), sets, sets[1:]))


class ToldTest(unittest.TestCase):
    def setUp(self):
        self.book = Book(SEATS, [("given", "a", 7)])
        self.story = Story(self.book, LETTER, [["a"], ["b", "c"]])

    def test_properties(self):
        self.assertIs(self.story.book, self.book)
        self.assertIs(self.story.letter, LETTER)
        for word in ["book", "letter"]:
            with self.assertRaises(AttributeError):
                setattr(self.story, word, 5)

    def test_by_name(self):
        story = Story(states=[["a"], ["b", "c"]], letter=LETTER, book=self.book)
        self.assertEqual(story, self.story)

    def test_states(self):
        for states in [[], [[]], [["a"], [], ["b", "a"]], [5, ["a"], "ab", None]]:
            self.assertEqual(Story(self.book, LETTER, states).states(), states)

    def test_tuples_count_as_lists_but_not_deeper_ones(self):
        story = Story(self.book, LETTER, (("a", "b"), ["c"], (), ("a", ("b", "c"), [("a",)])))
        self.assertEqual(story.states(), [["a", "b"], ["c"], [], ["a", ("b", "c"), [("a",)]]])
        self.assertEqual([type(value) for value in story.states()], [list] * 4)
        self.assertEqual(Story(self.book, LETTER, ()).states(), [])
        self.assertEqual(Story(self.book, LETTER, [5, ("a",), "ab"]).states(), [5, ["a"], "ab"])

    def test_what_is_no_list_is_told_itself(self):
        for value in [5, "ab", *wrong_values()]:
            if not isinstance(value, (list, tuple)):
                self.assertIs(Story(self.book, LETTER, value).states(), value)

    def test_what_was_passed_is_copied_deeply(self):
        inner, deep, deeper, shut = ["a"], ["b"], ["d"], ["c"]
        states = [inner, [deep, [deeper]], [(shut, 5)]]
        story = Story(self.book, LETTER, states)
        states.append(["x"])
        for value in [inner, deep, deeper, shut]:
            value.append("x")
        self.assertEqual(story.states(), [["a"], [["b"], [["d"]]], [(["c"], 5)]])

    def test_what_is_told_is_copied_deeply(self):
        story = Story(self.book, LETTER, [["a"], [["b", ["d"]]], [(["c"], 5)]])
        told = story.states()
        told[0].append("x")
        told[1][0][1].append("x")
        told[1][0].append("x")
        told[2][0][0].append("x")
        told.append(["x"])
        self.assertEqual(story.states(), [["a"], [["b", ["d"]]], [(["c"], 5)]])
        self.story.named().append("x")
        self.assertEqual(self.story.named(), ["b", "c"])

    def test_arguments_are_not_changed(self):
        states = [("a",), ["b", ("c",)]]
        story = Story(self.book, LETTER, states)
        story.holds()
        self.assertEqual(states, [("a",), ["b", ("c",)]])

    def test_all_values_are_told(self):
        for value in wrong_values():
            for states in [[value], (value,), [["a"], value], [[value]], [[["b"], value]]]:
                story = Story(self.book, LETTER, states)
                wanted = [list(state) if isinstance(state, tuple) else state for state in states]
                self.assertEqual(repr(story), f"Story({len(wanted)} states)")
                # Some errors are among the values: they equal only themselves.
                self.assertTrue(story.states() == wanted)

    def test_equal(self):
        self.assertTrue(self.story == Story(Book(SEATS, [("given", "a", 7)]), Letter((7, 8)), (("a",), ("b", "c"))))
        self.assertFalse(self.story != Story(self.book, LETTER, [["a"], ["b", "c"]]))
        stories = [
            self.story, Story(Book(SEATS), LETTER, [["a"], ["b", "c"]]), Story(self.book, Letter((7, 7)), [["a"], ["b", "c"]]),
            Story(self.book, LETTER, [["a"], ["c", "b"]]), Story(self.book, LETTER, [["a"]]), Story(self.book, LETTER, []),
            Story(self.book, LETTER, [["a"], ["b", ("c",)]]), Story(self.book, LETTER, None), Story(self.book, LETTER, "ab"),
            Story(self.book, LETTER, [["a"], ["b", ["c"]]]),
        ]
        for at, one in enumerate(stories):
            for to, other in enumerate(stories):
                self.assertIs(one == other, at == to, (at, to))
        self.assertTrue(Story(self.book, LETTER, None) == Story(self.book, LETTER, None))

    def test_equals_nothing_else(self):
        for value in [5, [["a"], ["b", "c"]], repr(self.story), self.book, LETTER, *wrong_values()]:
            self.assertIs(self.story == value, False)
            self.assertIs(value == self.story, False)

    def test_repr(self):
        for value in [5, "ab", "abcd", *wrong_values()]:
            if not isinstance(value, (list, tuple)):
                self.assertEqual(repr(Story(self.book, LETTER, value)), "Story(0 states)")
        for many in range(5):
            self.assertEqual(repr(Story(self.book, LETTER, [["a"]] * many)), f"Story({many} states)")
            self.assertEqual(repr(Story(self.book, LETTER, (5,) * many)), f"Story({many} states)")


class HoldsTest(unittest.TestCase):
    def holds(self, records, states, letter=LETTER):
        return Story(Book(SEATS, records), letter, states).holds()

    def test_without_steps(self):
        for names in [[], ["b"], ["a"], ["c"], ["b", "a"], ["a", "c"], ["b", "a", "c"]]:
            self.assertIs(self.holds([], [names]), True)
            self.assertIs(self.holds([("given", "a", 7), ("given", "b", 5)], [names]), True)
            self.assertIs(self.holds([], (tuple(names),)), True)
        self.assertIs(Story(Book(), LETTER, [[]]).holds(), True)
        self.assertIs(Story(Book(), LETTER, [["a"]]).holds(), False)

    def test_values_that_are_no_states(self):
        for value in [5, "a", "", ["x"], ["b", "b"], ["a", "b"], ["a", "a"], ["b", 5], [["b"]], [("b",)], *wrong_values()]:
            if value in ([], ()):
                continue
            self.assertIs(self.holds([], [value]), False, value)
            self.assertIs(self.holds(HALL, [[], value]), False, value)
            self.assertIs(self.holds(HALL, [value, []]), False, value)
            self.assertIs(self.holds([], [["b", value, "c"]]), value == "a", value)
            self.assertIs(self.holds([], [[value, "b"]]), False, value)
        for value in [None, 5, "", "a", Letter(), NothingLeft(), [], (), ["a"], nested(3, "a"), Book(SEATS)]:
            self.assertIs(self.holds([], value), False, value)

    def test_number_of_states(self):
        for records, steps in [([], 0), (HALL, 1), ([*HALL, ("look", 5, "b", 7)], 2)]:
            for many in range(5):
                self.assertIs(self.holds(records, [["b"]] * many), many == steps + 1)

    def test_mixed(self):
        records = [("mixed", ("a", "c"), (7, 5)), ("given", "b", 7)]
        right = [["a"], ["c"], ["b", "a"], ["b", "c"]]
        for many in range(4):
            for names in combinations("bac", many):
                self.assertIs(self.holds(records, [list(names)]), list(names) in right)
        self.assertTrue(self.holds([("mixed", ("a", "c"), (8, 7))], [["a", "c"]]))
        self.assertFalse(self.holds([("mixed", ("a", "c"), (8, 7))], [["c"]]))
        self.assertTrue(self.holds([("mixed", ("a", "c"), (7, 7))], [["b", "a", "c"]]))
        self.assertTrue(self.holds([("mixed", ("a", "c"), (9, 6))], [["b"]]))
        self.assertFalse(self.holds([("mixed", ("a", "c"), (9, 6))], [["c"]]))
        # The one of two such records that is not fulfilled may be any of them.
        book = Book([*SEATS, Peg("d")], [("mixed", ("a", "b"), (7, 5)), ("mixed", ("c", "d"), (7, 5))])
        held = [names for many in range(5) for names in combinations("bacd", many) if Story(book, LETTER, [names]).holds()]
        self.assertEqual(held, [("b", "c"), ("b", "d"), ("a", "c"), ("a", "d")])

    def test_meeting(self):
        for before, after, is_right in [
            (["b"], ["b"], True), (["b"], ["a"], True), (["a"], ["b"], True), (["b"], ["c"], False), (["b"], [], False),
            (["b"], ["b", "a"], False), ([], [], True), ([], ["a"], False), ([], ["c"], False), (["c"], ["c"], True),
            (["c"], [], False), (["b", "c"], ["a", "c"], True), (["b", "c"], ["a"], False), (["b", "a"], ["b", "a"], True),
            (["b", "a"], ["b", "c"], False), (["c"], ["b"], False),
        ]:
            self.assertIs(self.holds(HALL, [before, after]), is_right, (before, after))

    def test_swap(self):
        for before, after, is_right in [
            (["b"], ["b"], True), (["b"], ["c"], True), (["c"], ["b"], True), (["b"], ["a"], False), (["b"], [], False),
            (["b", "c"], ["b", "c"], True), ([], [], True), ([], ["b", "c"], False), (["b", "c"], [], False),
            (["b", "a"], ["a", "c"], True), (["b", "a"], ["c"], False), (["b"], ["a", "c"], False), (["a"], ["b"], False),
            (["a"], ["c"], False), ([], ["a"], False), (["b"], ["b", "c"], False), (["b", "c"], ["b"], False),
            (["b"], ["b", "a"], False), (["a"], [], False),
        ]:
            self.assertIs(self.holds([("swap", 5, "b", "c")], [before, after]), is_right, (before, after))
            self.assertIs(self.holds([("swap", 5, "c", "b")], [before, after]), is_right, (before, after))

    def test_look(self):
        for number in [5, 7]:
            for one in [[], ["b"], ["a"], ["b", "c"]]:
                for other in [[], ["b"], ["a"], ["b", "c"]]:
                    self.assertIs(self.holds([("look", 5, "b", number)], [one, other]), one == other)

    def test_random_stories_hold(self):
        chance = random.Random(19)
        for _ in range(400):
            book = random_book(chance, 4, 20)
            states = listed(book, random_story(chance, book, LETTER))
            self.assertTrue(Story(book, LETTER, states).holds(), (book.records(), states))
            self.assertTrue(Story(book, LETTER, tuple(tuple(state) for state in states)).holds())

    def test_bent_stories(self):
        chance = random.Random(20)
        found = {True: 0, False: 0}
        for _ in range(400):
            book = random_book(chance, 4, 20)
            states = listed(book, random_story(chance, book, LETTER))
            for bent in bent_ways(chance, book, states):
                wanted = is_story(book, LETTER, bent)
                self.assertIs(Story(book, LETTER, bent).holds(), wanted, (book.records(), states, bent))
                found[wanted] += 1
        self.assertGreater(min(found.values()), 400)


def turned(book, state, names):
    """A state in which each one of some names is in if it was not, and the other way round."""
    return [name for name in book.names() if (name in state) is not (name in names)]


def bent_ways(chance, book, states):
    """Ways to bend a story, most of which make it none."""
    at, to = chance.randrange(len(states)), chance.randrange(len(states))
    state = states[at]
    one, other = chance.choice(book.names()), chance.choice(book.names())
    bits = turned(book, state, [one])
    two = turned(book, turned(book, state, [one]), [other])
    exchange = [name for name in book.names() if name in exchanged(frozenset(state), one, other)]
    changed = [bits, two, exchange, state + [one], state[::-1], state + ["x"], state[1:], state + state]
    ways = [[*states[:at], other_state, *states[at + 1:]] for other_state in changed]
    # From this state on, all is turned, as if another beginning or another way through a step had been taken.
    ways.append([*states[:at], *[turned(book, later, [one]) for later in states[at:]]])
    ways.append([*states[:at], *[[name for name in book.names() if name in exchanged(frozenset(later), one, other)]
                                 for later in states[at:]]])
    doubled = [*states[:at], state, *states[at:]]
    both = list(states)
    both[at], both[to] = both[to], both[at]
    return [*ways, doubled, states[:at] + states[at + 1:], both, states[::-1]]


class FalseTest(unittest.TestCase):
    def false_records(self, records, *states):
        story = Story(Book(SEATS, records), LETTER, states)
        self.assertTrue(story.holds())
        return story.false_records()

    def test_given(self):
        records = [("given", "a", 7), ("given", "b", 9)]
        self.assertEqual(self.false_records(records, ["a"]), [])
        self.assertEqual(self.false_records(records, []), [0])
        self.assertEqual(self.false_records(records, ["b"]), [0, 1])
        self.assertEqual(self.false_records(records, ["b", "a", "c"]), [1])

    def test_given_is_about_the_beginning(self):
        records = [("given", "a", 7), ("swap", 5, "a", "c")]
        self.assertEqual(self.false_records(records, ["a"], ["c"]), [])
        self.assertEqual(self.false_records(records, ["c"], ["a"]), [0])

    def test_mixed_and_stay_are_never_false(self):
        self.assertEqual(self.false_records([("mixed", ("a", "c"), (7, 5)), *HALL], ["a"], ["b"]), [])

    def test_look(self):
        records = [("look", 5, "b", 7), ("look", 5, "c", 9), ("look", 5, "b", 8)]
        self.assertEqual(self.false_records(records, *[["b"]] * 4), [])
        self.assertEqual(self.false_records(records, *[[]] * 4), [0, 2])
        self.assertEqual(self.false_records(records, *[["b", "c"]] * 4), [1])
        self.assertEqual(self.false_records(records, *[["a", "c"]] * 4), [0, 1, 2])

    def test_swap(self):
        records = [("swap", 5, "b", "c")]
        for before, after, found in [
            (["b"], ["b"], [0]), (["b"], ["c"], []), (["c"], ["c"], [0]), (["c"], ["b"], []), ([], [], []),
            (["b", "c"], ["b", "c"], []), (["a"], ["a"], []), (["b", "a"], ["b", "a"], [0]), (["b", "a"], ["a", "c"], []),
        ]:
            self.assertEqual(self.false_records(records, before, after), found, (before, after))

    def test_ascending_indexes_of_records(self):
        records = [("look", 9, "b", 7), ("swap", 5, "a", "c"), ("given", "a", 5), ("look", 1, "c", 7), ("given", "b", 5)]
        self.assertEqual(self.false_records(records, ["a"], ["a"], ["a"], ["a"]), [0, 1, 2, 3])
        self.assertEqual(self.false_records(records, ["b"], ["b"], ["b"], ["b"]), [3, 4])

    def test_named(self):
        records = [("swap", 5, "b", "c"), ("look", 6, "b", 5)]
        self.assertEqual(Story(Book(SEATS, records), LETTER, [["b", "a"], ["a", "c"], ["a", "c"]]).named(), ["a", "c"])
        self.assertEqual(Story(Book(SEATS), LETTER, ((),)).named(), [])
        self.assertEqual(Story(Book(SEATS), LETTER, (("b", "c"),)).named(), ["b", "c"])

    def test_random_stories(self):
        chance = random.Random(21)
        for letter in [LETTER, Letter(), Letter((0, 9)), Letter((5, 5), (8, 9))]:
            for _ in range(150):
                book = random_book(chance, 4, 20)
                story = random_story(chance, book, letter)
                made = Story(book, letter, listed(book, story))
                self.assertTrue(made.holds())
                self.assertEqual(made.false_records(), false_in(book, letter, story), book.records())
                self.assertEqual(made.named(), listed(book, story)[-1])


if __name__ == "__main__":
    unittest.main()
