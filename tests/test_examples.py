"""The examples at the end of the document that need the present modules alone."""

import unittest

from lumplooks.errors import InvalidText
from lumplooks.letters import Letter, cut, letter_for


class ExamplesTest(unittest.TestCase):
    def test_read(self):
        letter = Letter.read('100-199 but 120, 130-139; 250')
        self.assertEqual(
            [letter.many, 120 in letter, letter.runs()],
            [90, False, [(100, 119), (121, 129), (140, 199), (250, 250)]],
        )

    def test_shortest(self):
        wide = Letter((100000, 100004), (100006, 100009))
        self.assertEqual(
            [wide.shortest(), letter_for([12, 14, 15], [13]), cut(Letter((3, 5)))],
            ['100000-100009 but 100005', '12; 14-15', [(0, 2, ()), (3, 5, (0,)), (6, 999999999999999999, ())]],
        )

    def test_wrong_text(self):
        with self.assertRaises(InvalidText) as caught:
            Letter.read('5-3')
        self.assertEqual(caught.exception.given, '5-3')


if __name__ == "__main__":
    unittest.main()
