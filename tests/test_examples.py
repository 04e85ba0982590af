"""The examples at the end of the document that need the present modules alone."""

import unittest

from lumplooks.books import Book
from lumplooks.errors import Clash, InvalidText
from lumplooks.letters import Letter, cut, letter_for
from lumplooks.prices import Prices
from lumplooks.seats import Peg, Thing


class ExamplesTest(unittest.TestCase):
    def test_read(self):
        letter = Letter.read('100-199 but 120, 130-139; 250')
        self.assertEqual(
            [letter.many, 120 in letter, letter.runs()],
            [90, False, [(100, 119), (121, 129), (140, 199), (250, 250)]],
        )

    def test_shortest(self):
        wide = Letter((100000, 100004), (100006, 100009))
        self.assertEqual(
            [wide.shortest(), letter_for([12, 14, 15], [13]), cut(Letter((3, 5)))],
            ['100000-100009 but 100005', '12; 14-15', [(0, 2, ()), (3, 5, (0,)), (6, 999999999999999999, ())]],
        )

    def test_wrong_text(self):
        with self.assertRaises(InvalidText) as caught:
            Letter.read('5-3')
        self.assertEqual(caught.exception.given, '5-3')

    def test_steps(self):
        records = [('stay', 'a', 'hall', 0, 3), ('stay', 'b', 'hall', 1, 4), ('look', 1, 'a', 7)]
        self.assertEqual(
            Book([Thing('a', 1), Peg('b')], records).steps(),
            [('look', 2, 'a', 7), ('meeting', 'hall', 1, 3, ('a', 'b'))],
        )

    def test_clash(self):
        with self.assertRaises(Clash) as caught:
            Book([Thing('a', 1)], [('given', 'a', 7), ('given', 'a', 7)])
        self.assertEqual(caught.exception.at, 1)

    def test_bound(self):
        book = Book([Thing('a', 1)], [('given', 'a', 7)])
        self.assertEqual(
            [Prices(book, [[0]]).bound(Letter((7, 7))), Prices(book, [[-1]]).bound(Letter((7, 7)), counted=['a'], sign=1)],
            [0, 1],
        )


if __name__ == "__main__":
    unittest.main()
