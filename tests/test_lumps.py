"""Lumps, lists, exchanges and fates behind answers, held against all lists of small books."""

import random
import unittest

from lumplooks.books import Book
from lumplooks.cases import Case
from lumplooks.errors import Contradiction, InvalidRecord, NotAThing, TooMany, UnknownName
from lumplooks.letters import Letter
from lumplooks.lumps import Lump, alone, exchange, fates_after, lists, looks, lumps, plan
from lumplooks.seats import Peg, Thing
from tests.helpers import wrong_values
from tests.samples import LETTER
from tests.tables import Tables, fitting, is_best, random_cases

# A closed lump a b d, an open one with the peg p, a loose thing f, a sure one and one that never has a named part.
BOOK = Book([Thing(name, at) for at, name in enumerate("abcdefgh")] + [Peg("p")], [
    ("mixed", ("a", "b", "d"), (7, 3, 4)), ("mixed", ("p", "c"), (7, 3)), ("given", "g", 7), ("given", "h", 5),
    ("given", "e", 3),
])
CASE = Case(BOOK, LETTER)


class LumpTest(unittest.TestCase):
    def test_kinds_of_lumps(self):
        for names, pegs, is_loose, is_open, many, text in [
            (["ab", "cd"], [], True, True, 2, "Lump(ab cd: open)"),
            (["ab", "cd"], [], False, False, 1, "Lump(ab cd: closed)"),
            (["ab", "cd"], ["p", "a"], False, True, 2, "Lump(ab cd p a: open)"),
            (["x"], ["p"], True, True, 1, "Lump(x p: open)"), ([], ["p", "q"], False, True, 0, "Lump(p q: open)"),
            (["x"], [], True, True, 1, "Lump(x: open)"), (["x"], [], False, False, 0, "Lump(x: closed)"),
        ]:
            lump = Lump(names, pegs, is_loose)
            self.assertEqual([lump.names(), lump.pegs(), lump.looks(), len(lump), repr(lump)],
                             [names, pegs, many, len(names) + len(pegs), text])
            self.assertIs(lump.is_open, is_open)
            again = Lump(is_loose=is_loose, pegs=tuple(pegs), names=tuple(names))
            self.assertEqual([again.names(), again.pegs(), repr(again)], [names, pegs, text])

    def test_copies_both_ways(self):
        names, pegs = ["a"], ["p"]
        lump = Lump(names, pegs, False)
        names.append("b")
        pegs.clear()
        lump.names().append("c")
        lump.pegs().clear()
        self.assertEqual([lump.names(), lump.pegs(), lump.is_open], [["a"], ["p"], True])
        with self.assertRaises(AttributeError):
            lump.is_open = False


class LumpsTest(unittest.TestCase):
    def test_one_book(self):
        self.assertEqual([repr(lump) for lump in lumps(CASE)], [
            "Lump(a b d: closed)", "Lump(c p: open)", "Lump(f: open)",
        ])
        self.assertEqual([looks(CASE), plan(CASE)], [4, ["a", "b", "c", "f"]])
        self.assertEqual(CASE.fates(), Tables(BOOK, LETTER).fates())
        self.assertEqual([lumps(Case(Book(), LETTER)), looks(Case(Book(), LETTER)), plan(Case(Book(), LETTER))], [[], 0, []])
        lumps(CASE).clear()
        plan(CASE).clear()
        self.assertEqual([len(lumps(CASE)), len(plan(CASE))], [3, 4])
        self.assertEqual([looks(case=CASE), plan(case=CASE), len(lumps(case=CASE))], [4, plan(CASE), 3])

    def test_lumps_in_the_order_of_the_book(self):
        book = Book([Peg("z"), Thing("y", 1), Thing("b", 2), Thing("x", 3), Thing("a", 4)], [
            ("mixed", ("a", "x", "y"), (7, 8, 3)), ("mixed", ("b", "z"), (3, 7)),
        ])
        self.assertEqual([repr(lump) for lump in lumps(Case(book, LETTER))], ["Lump(b z: open)", "Lump(y x a: closed)"])
        self.assertEqual(plan(Case(book, LETTER)), ["y", "b", "x"])

    def test_several_closed_lumps(self):
        book = Book([Thing(name, at) for at, name in enumerate("abcdef")] + [Peg("p"), Peg("q")], [
            ("mixed", ("a", "c"), (7, 3)), ("mixed", ("d", "f", "b"), (7, 8, 3)), ("mixed", ("p", "q"), (8, 3)),
            ("given", "e", 7),
        ])
        case = Case(book, LETTER)
        self.assertEqual(
            [repr(lump) for lump in lumps(case)], ["Lump(a c: closed)", "Lump(b d f: closed)", "Lump(p q: open)"],
        )
        self.assertEqual([looks(case), plan(case)], [3, ["a", "b", "d"]])
        self.assertEqual(Tables(book, LETTER).looks(), 3)

    def test_random_books(self):
        kinds = set()
        for case, tables in random_cases(101, 200, 8, 32):
            wanted = tables.lumps()
            things = case.book.names("thing")
            self.assertEqual([(lump.names(), lump.pegs(), lump.is_open) for lump in lumps(case)], [
                ([name for name in names if name in things], [name for name in names if name not in things], is_open)
                for names, is_open in wanted
            ])
            perhaps = [name for name in things if tables.fates()[name] == "perhaps"]
            closed = [names for names, is_open in wanted if not is_open]
            self.assertEqual(looks(case), len(perhaps) - len(closed))
            self.assertEqual(plan(case), [name for name in perhaps if name not in [names[-1] for names in closed]])
            self.assertTrue(tables.are_enough(plan(case)))
            self.assertEqual(sum(lump.looks() for lump in lumps(case)), looks(case))
            loose, pairs = tables.loose(), tables.exchangeable()
            for names, _ in wanted:
                self.assertIn(len(loose & set(names)), [0, len(names)])
                self.assertTrue(all((one, other) in pairs for one in names for other in names if one != other))
            kinds.add(tuple(sorted(is_open for _, is_open in wanted)))
        self.assertTrue({(), (True,), (False,), (False, True)} <= kinds)

    def test_fewer_looks_are_not_enough(self):
        found = set()
        for case, tables in random_cases(102, 150, 5, 16):
            self.assertEqual(looks(case), tables.looks())
            found.add(looks(case))
        self.assertTrue({0, 1, 2, 3} <= found)


class ListsTest(unittest.TestCase):
    def test_one_book(self):
        wanted = Tables(BOOK, LETTER).ordered_lists()
        self.assertEqual([lists(CASE), len(wanted)], [wanted, 12])
        self.assertEqual(lists(CASE)[0], ["d", "g", "p"])
        self.assertEqual(lists(Case(Book(), LETTER)), [[]])
        found = lists(CASE)
        found[0].clear()
        found.clear()
        self.assertEqual(lists(CASE), wanted)

    def test_limits(self):
        self.assertEqual(lists(CASE, limit=12), lists(CASE))
        self.assertEqual(lists(case=CASE, limit=1000), lists(CASE))
        for limit in [1, 2, 11]:
            with self.assertRaises(TooMany) as caught:
                lists(CASE, limit=limit)
            self.assertEqual(caught.exception.most, limit)
        self.assertEqual(lists(Case(Book(), LETTER), limit=1), [[]])
        with self.assertRaises(TypeError):
            lists(CASE, 12)

    def test_many_free_seats(self):
        nine = Case(Book([Thing(name, at) for at, name in enumerate("ihgfedcba")]), LETTER)
        self.assertEqual([len(lists(nine)), lists(nine)[:3]], [512, [[], ["a"], ["b"]]])
        self.assertEqual(lists(nine)[-1], list("ihgfedcba"))
        ten = Case(Book([Peg(name) for name in "jihgfedcba"]), LETTER)
        with self.assertRaises(TooMany) as caught:
            lists(ten)
        self.assertEqual(caught.exception.most, 1000)
        with self.assertRaises(TooMany) as caught:
            lists(ten, limit=999)
        self.assertEqual(caught.exception.most, 999)

    def test_random_books(self):
        for case, tables in random_cases(103, 200, 8, 32):
            wanted = tables.ordered_lists()
            self.assertEqual(lists(case), wanted)
            self.assertEqual(lists(case, limit=len(wanted)), wanted)
            if len(wanted) > 1:
                with self.assertRaises(TooMany):
                    lists(case, limit=len(wanted) - 1)

    def test_the_fact_about_lists(self):
        for case, _ in random_cases(104, 100, 6, 20):
            found = {frozenset(names) for names in lists(case)}
            for one in found:
                for other in found:
                    for name in one - other:
                        ways = [frozenset([name])] + [frozenset([name, more]) for more in other - one]
                        self.assertTrue(any(one ^ way in found and other ^ way in found for way in ways))


class ExchangeTest(unittest.TestCase):
    def check_pair(self, case, pair, mine, others):
        """Both stories are best, and their lists differ by these seats alone."""
        self.assertIsInstance(pair, tuple)
        first, second = pair
        self.assertTrue(is_best(case, first) and is_best(case, second))
        self.assertEqual(set(first.named()) - set(second.named()), mine)
        self.assertEqual(set(second.named()) - set(first.named()), others)

    def check_all_pairs(self, case, tables):
        """Which seats are loose, and which two are exchangeable."""
        loose, pairs = tables.loose(), tables.exchangeable()
        for one in case.book.names():
            pair = alone(case, one)
            self.assertIs(pair is not None, one in loose)
            if pair:
                self.check_pair(case, pair, {one}, set())
            for other in case.book.names():
                pair = exchange(case, one, other)
                self.assertIs(pair is not None, (one, other) in pairs)
                if pair:
                    self.check_pair(case, pair, {one}, {other})
        return len(loose), len(pairs)

    def test_random_books(self):
        found = [self.check_all_pairs(case, tables) for case, tables in random_cases(105, 150, 8, 32)]
        self.assertTrue({(True, True), (False, True), (True, False), (False, False)} <= {
            (loose > 0, pairs > 0) for loose, pairs in found
        })

    def test_loose_things_beside_closed_lumps(self):
        """Of some things two records say the opposite, so that they are loose; others are in closed lumps."""
        for turns in ["", "a", "b", "ab", "abc"]:
            records = [("given", name, 7 if name in turns else 3) for name in "abc"]
            records += [("look", 5, name, 3 if name in turns else 7) for name in "abc"]
            book = Book([Thing(name, at) for at, name in enumerate("aDbEcFGH".lower())], [
                *records, ("mixed", ("d", "e", "f"), (7, 3, 4)), ("mixed", ("g", "h"), (8, 3)),
            ])
            case, tables = Case(book, LETTER), Tables(book, LETTER)
            self.assertEqual(
                [repr(lump) for lump in lumps(case)],
                ["Lump(a b c: open)", "Lump(d e f: closed)", "Lump(g h: closed)"],
            )
            self.assertEqual([case.least, looks(case), tables.looks()], [3, 6, 6])
            self.assertEqual(lists(case), tables.ordered_lists())
            self.check_all_pairs(case, tables)

    def test_one_book(self):
        self.assertIsNone(exchange(CASE, "a", "a"))
        self.assertIsNone(exchange(CASE, "a", "c"))
        self.assertIsNone(exchange(CASE, "a", "f"))
        self.assertIsNone(exchange(CASE, "g", "e"))
        self.assertIsNone(alone(CASE, "a"))
        self.assertIsNone(alone(CASE, "g"))
        self.check_pair(CASE, exchange(case=CASE, one="c", other="p"), {"c"}, {"p"})
        self.check_pair(CASE, alone(case=CASE, name="f"), {"f"}, set())

    def test_long_chains(self):
        """Exchanges of seats that never meet each other, through all those between."""
        names = "abcdefgh"
        records = [("given", name, 7 if name in "adfh" else 3) for name in names]
        for at in range(7):
            records += [("stay", name, names[at], 2 * at, 2 * at + 1) for name in names[at:at + 2]]
        for turned in [False, True]:
            rows = [(row[0], row[1], row[2], 20 - row[4], 20 - row[3]) if row[0] == "stay" else row for row in records]
            book = Book([Thing(name, at) for at, name in enumerate(names)], rows if turned else records)
            case, tables = Case(book, LETTER), Tables(book, LETTER)
            self.assertEqual(lists(case), tables.ordered_lists())
            self.check_all_pairs(case, tables)

    def test_unknown_names(self):
        for value in [*wrong_values(), "x", ("a",)]:
            for ask in [
                lambda: exchange(CASE, value, "a"), lambda: exchange(CASE, "a", value), lambda: alone(CASE, value),
                lambda: exchange(CASE, value, "y"), lambda: exchange(CASE, value, value),
            ]:
                with self.assertRaises(UnknownName) as caught:
                    ask()
                self.assertTrue(caught.exception.name == value)


class AnswersTest(unittest.TestCase):
    def test_random_answers(self):
        chance = random.Random(106)
        contradictions = 0
        for case, tables in random_cases(107, 120, 7, 24):
            states = frozenset(tables.lists)
            answers = []
            things = case.book.names("thing")
            for _ in range(6 if things else 0):
                answer = (chance.choice(things), chance.random() < 0.5)
                left = fitting(states, *answer)
                if left:
                    states = left
                    answers.append(answer)
                    self.assertEqual(list(fates_after(case, *answers).items()), list(tables.fates(states).items()))
                    continue
                contradictions += 1
                with self.assertRaises(Contradiction) as caught:
                    fates_after(case, *answers, answer, *answers, (answer[0], not answer[1]))
                self.assertEqual(caught.exception.at, len(answers))
            self.assertEqual(fates_after(case), case.fates())
        self.assertGreater(contradictions, 50)

    def test_one_book(self):
        fates = fates_after(CASE, ("a", False), ("c", True), ("a", False))
        self.assertEqual(fates, {
            "a": "never", "b": "perhaps", "c": "sure", "d": "perhaps", "e": "never", "f": "perhaps", "g": "sure",
            "h": "never", "p": "never",
        })
        self.assertEqual(list(fates), BOOK.names())
        fates.clear()
        self.assertEqual(fates_after(CASE, ("g", True), ("h", False)), CASE.fates())

    def test_values_that_are_no_answers(self):
        for value in [
            *wrong_values(), ("a",), ("a", 1), ("a", 0), ("a", None), ["a", True], ("a", True, True), (5, True), ("a", "b"),
            (None, False), (("a", True),), ((("a"),), True),
        ]:
            for at, answers in [
                (0, [value]), (1, [("a", True), value]), (0, [value, ("x", True), 5]),
                (2, [("x", True), ("p", True), value]), (2, [("g", False), ("g", True), value, value]),
            ]:
                with self.assertRaises(InvalidRecord) as caught:
                    fates_after(CASE, *answers)
                self.assertEqual(caught.exception.at, at)

    def test_names(self):
        for name in ["x", "", "A", "a" * 4000, " "]:
            for answers in [[(name, True)], [("p", True), (name, False), ("y", True)], [("g", False), (name, True)]]:
                with self.assertRaises(UnknownName) as caught:
                    fates_after(CASE, *answers)
                self.assertEqual(caught.exception.name, name)
        book = Book([Thing("a", 1), Peg("p"), Peg("q")], [("given", "a", 7)])
        with self.assertRaises(NotAThing) as caught:
            fates_after(Case(book, LETTER), ("a", False), ("q", True), ("p", True))
        self.assertEqual(caught.exception.name, "q")

    def test_contradictions(self):
        for at, answers in [
            (0, [("g", False)]), (1, [("a", True), ("b", True)]), (2, [("a", False), ("b", False), ("d", False)]),
            (1, [("f", True), ("f", False), ("g", False)]), (2, [("f", True), ("f", True), ("h", True)]),
        ]:
            with self.assertRaises(Contradiction) as caught:
                fates_after(CASE, *answers)
            self.assertEqual(caught.exception.at, at)
        self.assertEqual(fates_after(CASE, ("f", True))["f"], "sure")


class OtherLettersTest(unittest.TestCase):
    def test_letters_that_name_all_or_none(self):
        for letter in [Letter(), Letter((0, 20))]:
            case = Case(BOOK, letter)
            # Of each of the two letters f alone is loose, because nothing is told of it.
            self.assertEqual([repr(lump) for lump in lumps(case)], ["Lump(f: open)"])
            self.assertEqual([looks(case), plan(case), len(lists(case))], [1, ["f"], 2])


if __name__ == "__main__":
    unittest.main()
