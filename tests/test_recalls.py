"""Recalls: commands and their errors, steps back and forth, limits, and the case that is kept."""

import random
import unittest

from lumplooks.cases import Case
from lumplooks.errors import (
    Clash, DuplicateName, DuplicateNumber, Full, InvalidCommand, InvalidLimit, InvalidName, InvalidNumber,
    InvalidRecord, InvalidText, NothingLeft, TooMany, UnknownName,
)
from lumplooks.letters import Letter
from lumplooks.recalls import Recall
from lumplooks.seats import Peg, Thing
from tests.helpers import wrong_values
from tests.samples import LETTER, great_book

NAMES = [chr(ord("a") + at) for at in range(24)]


def small(limit=60):
    """A recall of two things, a peg and three records."""
    recall = Recall(limit=limit)
    recall.do(("thing", "a", 1), ("peg", "p"), ("thing", "b", 2), ("letter", "7-8"))
    recall.do(("record", ("given", "a", 7)), ("record", ("given", "b", 3)), ("record", ("swap", 4, "a", "b")))
    return recall


class RecallCase(unittest.TestCase):
    def state(self, recall):
        """All that can be seen of a recall."""
        return [
            recall.book_now().seats(), recall.book_now().records(), recall.letter_now(), recall.history(), recall.limit,
            recall.computed, recall.is_kept, len(recall), repr(recall), recall.busy,
        ]

    def refuse(self, recall, error, word, value, *commands):
        """These commands raise an error with an attribute, and nothing changes."""
        before = self.state(recall)
        with self.assertRaises(error) as caught:
            recall.do(*commands)
        self.assertIs(caught.exception.__class__, error)
        found = getattr(caught.exception, word)
        self.assertTrue(found is value or found == value, (found, value))
        self.assertEqual(self.state(recall), before)


class CommandsTest(RecallCase):
    def test_empty_recall(self):
        recall = Recall()
        self.assertEqual(self.state(recall), [[], [], Letter(), (0, 0), 60, 0, False, 0, "Recall(0 seats, 0 records)", False])
        self.assertEqual([recall.least_now(), recall.looks(), recall.case().fates()], [0, 0, {}])

    def test_all_commands(self):
        recall = small()
        self.assertEqual(recall.book_now().seats(), [Thing("a", 1), Peg("p"), Thing("b", 2)])
        self.assertEqual(recall.book_now().records(), [("given", "a", 7), ("given", "b", 3), ("swap", 4, "a", "b")])
        self.assertEqual([recall.letter_now(), recall.history(), len(recall)], [Letter((7, 8)), (2, 0), 3])
        self.assertEqual(repr(recall), "Recall(3 seats, 3 records)")
        self.assertEqual([recall.fate("a"), recall.fate(name="b"), recall.fate("p")], ["never", "sure", "perhaps"])
        self.assertIsNone(recall.do(("strike", 1)))
        self.assertEqual(recall.book_now().records(), [("given", "a", 7), ("swap", 4, "a", "b")])
        recall.do(("letter", "none"), ("strike", 1), ("strike", 0), ("letter", "100-199 but 120, 130-139; 250"))
        self.assertEqual([recall.letter_now().many, len(recall)], [90, 0])
        self.assertEqual([name in recall for name in ["a", "p", "c", "", None, 5]], [True, True, False, False, False, False])
        for value in wrong_values():
            self.assertIs(value in recall, False)

    def test_values_that_are_no_commands(self):
        recall = small()
        wrong = [
            *wrong_values(), ("thing",), ("thing", "c"), ("thing", "c", 5, 6), ("peg",), ("peg", "q", 5), ("record",),
            ("record", "given", "a", 7), ("strike",), ("strike", 0, 1), ("letter",), ("letter", "5", "6"), ["peg", "q"],
            ("Peg", "q"), ("", "q"), ("undo",), (("peg",), "q"), (None, "q"), (["peg"], "q"), ("given", "p", 7), "peg",
        ]
        for value in wrong:
            self.refuse(recall, InvalidCommand, "at", 0, value)
            self.refuse(recall, InvalidCommand, "at", 1, ("peg", "q"), value, value)
            # All commands are looked at before the first one is done.
            self.refuse(recall, InvalidCommand, "at", 2, ("peg", "p"), ("strike", None), value)

    def test_things_and_pegs(self):
        recall = small()
        for value in [*wrong_values(), "abcdefghi", "A"]:
            self.refuse(recall, InvalidName, "given", value, ("thing", value, value))
            self.refuse(recall, InvalidName, "given", value, ("peg", value))
            self.refuse(recall, InvalidNumber, "given", value, ("thing", "a", value))
        self.refuse(recall, DuplicateName, "name", "p", ("thing", "p", 1))
        self.refuse(recall, DuplicateName, "name", "a", ("peg", "a"))
        self.refuse(recall, DuplicateNumber, "given", 2, ("thing", "c", 2))
        self.refuse(recall, DuplicateName, "name", "c", ("thing", "c", 5), ("peg", "c"))

    def test_too_many_seats(self):
        recall = Recall()
        recall.do(*[("thing", name, at) for at, name in enumerate(NAMES[:23])])
        recall.do(("peg", "x"))
        self.refuse(recall, TooMany, "most", 24, ("peg", "y"))
        self.refuse(recall, TooMany, "most", 24, ("thing", "y", 24))
        self.refuse(recall, DuplicateName, "name", "a", ("thing", "a", 24))
        self.refuse(recall, DuplicateName, "name", "x", ("peg", "x"))
        self.refuse(recall, DuplicateNumber, "given", 22, ("thing", "y", 22))
        self.refuse(recall, InvalidName, "given", "Y", ("peg", "Y"))

    def test_records(self):
        recall = small()
        for value in [*wrong_values(), ("given", "c", 7), ["given", "p", 7], ("look", 3, "p", 7), ("stay", "a", "hall", 5, 5)]:
            self.refuse(recall, InvalidRecord, "at", 3, ("record", value))
            self.refuse(recall, InvalidRecord, "at", 4, ("record", ("look", 5, "a", 7)), ("record", value))
        self.refuse(recall, Clash, "at", 3, ("record", ("given", "a", 7)))
        self.refuse(recall, Clash, "at", 2, ("strike", 1), ("record", ("mixed", ("p", "a"), (7, 8))))
        self.refuse(recall, Clash, "at", 4, ("record", ("stay", "a", "hall", 0, 5)), ("record", ("stay", "a", "yard", 4, 6)))
        self.assertEqual(len(recall), 3)

    def test_strikes_and_letters(self):
        recall = small()
        for value in [*wrong_values(), 3, 120, "0"]:
            self.refuse(recall, InvalidNumber, "given", value, ("strike", value))
        for value in wrong_values():
            self.refuse(recall, InvalidText, "given", value, ("letter", value))
        self.refuse(recall, InvalidText, "given", "5-3", ("letter", "5"), ("letter", "5-3"))
        self.refuse(Recall(), InvalidNumber, "given", 0, ("strike", 0))

    def test_full(self):
        recall = small(limit=4)
        self.refuse(recall, Full, "limit", 4, ("record", ("look", 5, "a", 7)), ("record", ("look", 6, "a", 7)))
        recall.do(("record", ("look", 5, "a", 7)))
        self.refuse(recall, Full, "limit", 4, ("record", ("look", 6, "a", 7)))
        self.refuse(recall, InvalidRecord, "at", 4, ("record", ("look", 6, "x", 7)))
        self.refuse(recall, Clash, "at", 4, ("record", ("given", "b", 7)))
        recall.do(("strike", 0), ("record", ("look", 6, "a", 7)))
        self.assertEqual(len(recall), 4)

    def test_full_at_the_greatest_limit(self):
        recall = Recall(limit=120)
        recall.do(("thing", "a", 1), *[("record", ("look", hour, "a", 7)) for hour in range(119)])
        recall.do(("record", ("given", "a", 7)))
        self.refuse(recall, Full, "limit", 120, ("record", ("look", 6, "a", 7)))
        self.refuse(recall, Clash, "at", 120, ("record", ("given", "a", 7)))
        self.refuse(recall, InvalidRecord, "at", 120, ("record", None))

    def test_all_or_none(self):
        recall = small()
        self.refuse(recall, InvalidNumber, "given", 9, ("peg", "q"), ("letter", "5"), ("strike", 0), ("strike", 9))
        self.refuse(recall, DuplicateName, "name", "q", ("peg", "q"), ("record", ("given", "q", 7)), ("peg", "q"))

    def test_busy(self):
        recall = small()
        self.assertIs(recall.busy, False)
        for commands in [[("peg", "p")], [None], [("strike", 9)], [], [("record", ("given", "a", 7))]]:
            try:
                recall.do(*commands)
            except ValueError:
                pass
            self.assertIs(recall.busy, False)
        with self.assertRaises(AttributeError):
            recall.busy = True


class StepsTest(RecallCase):
    def test_undo_and_redo(self):
        recall = Recall()
        states = [(recall.book_now(), recall.letter_now())]
        for commands in [[("thing", "a", 1)], [], [("letter", "7"), ("peg", "p")], [("record", ("given", "a", 7))], [("strike", 0)]]:
            recall.do(*commands)
            states.append((recall.book_now(), recall.letter_now()))
        self.assertEqual(recall.history(), (5, 0))
        for at in range(4, -1, -1):
            self.assertIsNone(recall.undo())
            self.assertEqual([(recall.book_now(), recall.letter_now()), recall.history()], [states[at], (at, 5 - at)])
        before = self.state(recall)
        with self.assertRaises(NothingLeft):
            recall.undo()
        self.assertEqual(self.state(recall), before)
        for at in range(1, 6):
            self.assertIsNone(recall.redo())
            self.assertEqual([(recall.book_now(), recall.letter_now()), recall.history()], [states[at], (at, 5 - at)])
        before = self.state(recall)
        with self.assertRaises(NothingLeft):
            recall.redo()
        self.assertEqual(self.state(recall), before)

    def test_another_step_ends_redo(self):
        recall = small()
        recall.undo()
        self.refuse(recall, InvalidNumber, "given", 5, ("strike", 5))
        self.assertEqual(recall.history(), (1, 1))
        recall.do()
        self.assertEqual(recall.history(), (2, 0))
        with self.assertRaises(NothingLeft):
            recall.redo()
        recall.undo()
        recall.undo()
        self.assertEqual([recall.history(), len(recall.book_now())], [(0, 2), 0])

    def test_undo_and_redo_ignore_the_limit(self):
        recall = small(limit=3)
        recall.undo()
        recall.limit = 1
        recall.redo()
        self.assertEqual([len(recall), recall.limit, recall.history()], [3, 1, (2, 0)])
        self.refuse(recall, Full, "limit", 1, ("record", ("look", 5, "a", 7)))
        recall.do(("strike", 0))
        self.refuse(recall, Full, "limit", 1, ("strike", 0), ("record", ("look", 5, "a", 7)))
        recall.undo()
        self.assertEqual(len(recall), 3)

    def test_the_limit_is_no_part_of_the_steps(self):
        recall = small()
        recall.limit = 10
        recall.do(("peg", "q"))
        recall.set_limit(20)
        recall.undo()
        self.assertEqual(recall.limit, 20)
        recall.undo()
        recall.redo()
        self.assertEqual([recall.limit, recall.history()], [20, (2, 1)])


class LimitTest(RecallCase):
    def test_right_limits(self):
        self.assertEqual([Recall.MOST, Recall().limit, Recall(limit=1).limit, Recall(limit=120).limit], [120, 60, 1, 120])
        recall = small()
        for value in [3, 120, 4]:
            recall.limit = value
            self.assertEqual(recall.limit, value)
            self.assertIsNone(recall.set_limit(value=value))
            self.assertEqual(recall.limit, value)

    def test_wrong_limits(self):
        recall = small()
        before = self.state(recall)
        for value in [*wrong_values(), 0, 121, "60", 10 ** 18]:
            with self.assertRaises(InvalidLimit) as caught:
                Recall(limit=value)
            self.assertTrue(caught.exception.given == value)
        for value in [*wrong_values(), 0, 1, 2, 121]:
            with self.assertRaises(InvalidLimit) as caught:
                recall.set_limit(value)
            self.assertTrue(caught.exception.given == value)
            with self.assertRaises(InvalidLimit) as caught:
                recall.limit = value
            self.assertTrue(caught.exception.given == value)
        self.assertEqual(self.state(recall), before)
        with self.assertRaises(TypeError):
            Recall(60)

    def test_limits_when_there_are_more_records(self):
        recall = small(limit=3)
        recall.undo()
        recall.limit = 1
        recall.redo()
        for value in [1, 2]:
            with self.assertRaises(InvalidLimit):
                recall.limit = value
        recall.limit = 3
        self.assertEqual(recall.limit, 3)


class KeptTest(RecallCase):
    def kept(self, recall):
        return [recall.is_kept, recall.computed]

    def test_each_question_computes_once(self):
        for ask in [Recall.least_now, Recall.looks, Recall.case, lambda recall: recall.fate("a")]:
            recall = small()
            self.assertEqual(self.kept(recall), [False, 0])
            first = ask(recall)
            self.assertEqual(self.kept(recall), [True, 1])
            self.assertTrue(ask(recall) is first or ask(recall) == first)
            recall.least_now(), recall.looks(), recall.fate("b"), recall.case()
            self.assertEqual(self.kept(recall), [True, 1])
        for word in ["is_kept", "computed"]:
            with self.assertRaises(AttributeError):
                setattr(recall, word, 0)

    def test_questions_that_compute_nothing(self):
        recall = small()
        recall.book_now(), recall.letter_now(), recall.history(), recall.twin(), repr(recall), len(recall), "a" in recall
        self.assertEqual(recall, small())
        for value in [*wrong_values(), "x"]:
            with self.assertRaises(UnknownName) as caught:
                recall.fate(value)
            self.assertTrue(caught.exception.name == value)
        self.assertEqual(self.kept(recall), [False, 0])

    def test_the_kept_case_is_the_same(self):
        recall = small()
        case = recall.case()
        self.assertIsInstance(case, Case)
        self.assertIs(recall.case(), case)
        self.assertEqual([case.book, case.letter], [recall.book_now(), recall.letter_now()])

    def test_steps_that_change_nothing(self):
        recall = small()
        case = recall.case()
        recall.do()
        recall.do(("letter", "7; 8"))
        recall.do(("record", ("look", 5, "a", 7)), ("strike", 3))
        recall.do(("letter", "5"), ("letter", "7-8"))
        self.assertEqual(self.kept(recall), [True, 1])
        for _ in range(4):
            recall.undo()
        self.assertIs(recall.case(), case)
        for _ in range(4):
            recall.redo()
        self.assertIs(recall.case(), case)
        self.assertEqual(self.kept(recall), [True, 1])

    def test_steps_that_change_something(self):
        for command in [("letter", "7"), ("peg", "q"), ("strike", 2), ("record", ("look", 9, "a", 5))]:
            recall = small()
            recall.least_now()
            recall.do(command)
            self.assertEqual(self.kept(recall), [False, 1])
            recall.undo()
            self.assertEqual(self.kept(recall), [False, 1])
            recall.least_now()
            self.assertEqual(self.kept(recall), [True, 2])
            recall.redo()
            self.assertEqual(self.kept(recall), [False, 2])

    def test_errors_and_limits_keep(self):
        recall = small()
        case = recall.case()
        for commands in [[("peg", "q"), ("peg", "q")], [None], [("strike", 5)]]:
            with self.assertRaises(ValueError):
                recall.do(*commands)
        recall.limit = 7
        with self.assertRaises(NothingLeft):
            recall.redo()
        self.assertEqual(self.kept(recall), [True, 1])
        self.assertIs(recall.case(), case)

    def test_records_in_another_order_are_another_book(self):
        recall = small()
        recall.least_now()
        recall.do(("strike", 0), ("record", ("given", "a", 7)))
        self.assertEqual(self.kept(recall), [False, 1])

    def test_told_cases_stay(self):
        recall = small()
        case = recall.case()
        told = [case.fates(), case.least, case.write()]
        recall.do(("letter", "none"), ("strike", 0), ("peg", "q"))
        recall.looks()
        self.assertEqual([case.fates(), case.least, case.write()], told)
        self.assertEqual(case.book, small().book_now())


class TwinTest(RecallCase):
    def test_twins_are_independent(self):
        recall = small(limit=7)
        recall.undo()
        recall.least_now()
        twin = recall.twin()
        self.assertEqual(self.state(twin), self.state(recall))
        self.assertTrue(twin == recall)
        self.assertIs(twin.case(), recall.case())
        before = self.state(recall)
        twin.redo()
        twin.do(("peg", "q"))
        twin.limit = 100
        twin.looks()
        self.assertEqual(self.state(recall), before)
        self.assertFalse(twin == recall)
        state = self.state(twin)
        recall.undo()
        recall.do(("letter", "1"))
        self.assertEqual(self.state(twin), state)
        for _ in range(3):
            twin.undo()
        self.assertEqual([twin.history(), twin.computed, recall.computed], [(0, 3), 2, 1])

    def test_twin_of_a_recall_over_its_limit(self):
        recall = small(limit=3)
        recall.undo()
        recall.limit = 1
        recall.redo()
        twin = recall.twin()
        self.assertEqual(self.state(twin), self.state(recall))
        twin.undo()
        self.assertEqual([len(twin), len(recall), twin.limit], [0, 3, 1])

    def test_equal(self):
        one, other = small(), small(limit=9)
        other.do()
        other.least_now()
        self.assertTrue(one == other)
        other.do(("letter", "7"))
        self.assertFalse(one == other)
        other.do(("letter", "7-8"), ("strike", 2))
        self.assertFalse(one == other)
        other.do(("record", ("swap", 4, "a", "b")))
        self.assertTrue(one == other)
        for value in [*wrong_values(), one.book_now(), repr(one)]:
            self.assertIs(one == value, False)


class LongRowsTest(RecallCase):
    def test_everything_undone_and_redone(self):
        """The same answers behind each step, back and forth, and one computed case for each change that is asked for."""
        chance = random.Random(151)
        recall = Recall(limit=120)
        book = great_book(chance, 60, 3)
        rows = [("thing", seat.label, seat.number) if seat.IS_LOOKED_AT else ("peg", seat.label) for seat in book.seats()]
        rows = [*rows, ("letter", "7-8"), *[("record", record) for record in book.records()], ("letter", "7-8")]
        told = [self.told(recall)]
        changes = 1
        for row in rows:
            before = recall.book_now(), recall.letter_now()
            recall.do(row)
            changes += before != (recall.book_now(), recall.letter_now())
            told.append(self.told(recall))
            self.assertEqual(recall.computed, changes)
        self.assertEqual([recall.book_now(), recall.history()], [book, (len(rows), 0)])
        self.assertEqual(changes, len(rows))
        for at in reversed(range(len(rows))):
            recall.undo()
            self.assertEqual(self.told(recall), told[at])
        self.assertEqual(recall.computed, 2 * len(rows) - 1)
        for at in range(1, len(rows) + 1):
            recall.redo()
            if at % 40 == 0:
                self.assertEqual(self.told(recall), told[at])
        self.assertEqual(recall.computed, 2 * len(rows) - 1 + len(rows) // 40)
        self.assertEqual(self.told(recall), told[-1])

    def told(self, recall):
        case = Case(recall.book_now(), recall.letter_now())
        answers = [recall.least_now(), recall.looks(), recall.case().fates(), recall.case().write()]
        self.assertEqual(answers[::2], [case.least, case.fates()])
        return answers

    def test_great_recalls(self):
        chance = random.Random(152)
        book = great_book(chance, 120, 4)
        recall = Recall(limit=120)
        for seat in book.seats():
            recall.do(("thing", seat.label, seat.number) if seat.IS_LOOKED_AT else ("peg", seat.label))
        for record in book.records():
            recall.do(("record", record))
        recall.do(("letter", LETTER.text()))
        case = Case(book, LETTER)
        self.assertEqual([recall.least_now(), recall.case().fates()], [case.least, case.fates()])
        self.assertEqual([recall.history(), recall.computed, len(recall)], [(145, 0), 1, 120])
        self.refuse(recall, Full, "limit", 120, ("record", ("look", 5, book.names("thing")[0], 7)))
        self.refuse(recall, TooMany, "most", 24, ("peg", "zz"))
        self.refuse(recall, DuplicateName, "name", "c", ("peg", "c"))


if __name__ == "__main__":
    unittest.main()
