"""The examples at the end of the document."""

import unittest

from lumplooks.answerers import Answerer
from lumplooks.books import Book
from lumplooks.cases import Case
from lumplooks.desk import Desk
from lumplooks.errors import Clash, InvalidPage, InvalidText
from lumplooks.letters import Letter, cut, letter_for
from lumplooks.lumps import lists, looks, lumps, plan
from lumplooks.pages import read_page
from lumplooks.prices import Prices
from lumplooks.recalls import Recall
from lumplooks.rules import Rule
from lumplooks.seats import Peg, Thing


class ExamplesTest(unittest.TestCase):
    def test_read(self):
        letter = Letter.read('100-199 but 120, 130-139; 250')
        self.assertEqual(
            [letter.many, 120 in letter, letter.runs()],
            [90, False, [(100, 119), (121, 129), (140, 199), (250, 250)]],
        )

    def test_shortest(self):
        wide = Letter((100000, 100004), (100006, 100009))
        self.assertEqual(
            [wide.shortest(), letter_for([12, 14, 15], [13]), cut(Letter((3, 5)))],
            ['100000-100009 but 100005', '12; 14-15', [(0, 2, ()), (3, 5, (0,)), (6, 999999999999999999, ())]],
        )

    def test_wrong_text(self):
        with self.assertRaises(InvalidText) as caught:
            Letter.read('5-3')
        self.assertEqual(caught.exception.given, '5-3')

    def test_steps(self):
        records = [('stay', 'a', 'hall', 0, 3), ('stay', 'b', 'hall', 1, 4), ('look', 1, 'a', 7)]
        self.assertEqual(
            Book([Thing('a', 1), Peg('b')], records).steps(),
            [('look', 2, 'a', 7), ('meeting', 'hall', 1, 3, ('a', 'b'))],
        )

    def test_clash(self):
        with self.assertRaises(Clash) as caught:
            Book([Thing('a', 1)], [('given', 'a', 7), ('given', 'a', 7)])
        self.assertEqual(caught.exception.at, 1)

    def test_bound(self):
        book = Book([Thing('a', 1)], [('given', 'a', 7)])
        self.assertEqual(
            [Prices(book, [[0]]).bound(Letter((7, 7))), Prices(book, [[-1]]).bound(Letter((7, 7)), counted=['a'], sign=1)],
            [0, 1],
        )

    def test_lumps(self):
        records = [('given', 'a', 7), ('given', 'b', 3), ('stay', 'a', 'hall', 0, 2), ('stay', 'b', 'hall', 1, 2)]
        case = Case(Book([Thing('a', 1), Thing('b', 2)], records), Letter((7, 7)))
        self.assertEqual(
            [case.fates(), lists(case), looks(case), plan(case), repr(lumps(case)[0]), case.letter_to_owners()],
            [{'a': 'perhaps', 'b': 'perhaps'}, [['b'], ['a']], 1, ['a'], 'Lump(a b: closed)', '1-2'],
        )

    def test_least(self):
        records = [('given', 'a', 7), ('look', 5, 'a', 3), ('look', 6, 'a', 4)]
        case = Case(Book([Thing('a', 1)], records), Letter((7, 7)))
        self.assertEqual(
            [case.least, case.best().told(), case.record_fate(0), case.record_fate(1), case.fewest('a'),
             case.fate('a').told()],
            [1, 'least 1', 'always', 'never', 2, 'fate never'],
        )

    def test_answerer(self):
        seats = [Thing('a', 1), Thing('b', 2), Thing('c', 3)]
        case = Case(Book(seats, [('mixed', ('a', 'b', 'c'), (7, 3, 4))]), Letter((7, 7)))
        asker = Answerer(case)
        self.assertEqual(
            [case.counts('a', 'b').told(), asker('a'), asker.is_settled(), len(asker)],
            ['counts 0 to 1', False, False, 1],
        )

    def test_rules(self):
        self.assertEqual(
            [Rule(2, 'timed').covers(Rule(1, 'any')), Rule(2, 'timed').covers(Rule(2, 'any')),
             Rule().covers(Rule(0, 'timed')), repr(Rule())],
            [True, False, False, 'Rule(any number, stopped)'],
        )

    def test_recall(self):
        recall = Recall()
        recall.do(('thing', 'a', 1), ('peg', 'b'), ('letter', '7'))
        recall.do(('record', ('given', 'a', 7)))
        first = [recall.least_now(), recall.fate('a'), recall.looks(), recall.computed]
        recall.undo()
        self.assertEqual(
            [first, recall.history(), recall.is_kept, recall.fate('a')],
            [[0, 'sure', 0, 1], (1, 1), False, 'perhaps'],
        )

    def test_wrong_page(self):
        with self.assertRaises(InvalidPage) as caught:
            read_page('letter 7\nthing a\n')
        self.assertEqual(caught.exception.line, 1)

    def test_desk(self):
        desk = Desk()
        self.assertEqual(
            [desk('thing a 1'), desk('letter 5-9 but 6'), desk('look 3 a 6'), desk('looks'), desk('fate a'),
             desk('write'), desk('fate  a'), desk('fate c')],
            ['done', 'done', 'done', '0', 'never', 'none', 'unknown', 'error UnknownName'],
        )


if __name__ == "__main__":
    unittest.main()
