"""Pages: written, read, and refused with the index of the first wrong line."""

import random
import unittest

from lumplooks.errors import InvalidPage, LumpError
from lumplooks.letters import Letter
from lumplooks.pages import read_page, write_page
from lumplooks.recalls import Recall
from lumplooks.seats import Peg, Thing
from tests.helpers import wrong_values
from tests.samples import LOOKS, STAYS, great_book, random_book

PAGE = (
    "letter 7-8; 10\nthing a 0\npeg p\nthing b 999999999999999999\n"
    "given a 7\nmixed b,p 7,3\nstay a hall 0 5\nswap 3 p a\nlook 1000000 b 10\n"
)
LINES = PAGE.split("\n")[:-1]


def command_for(seat):
    return ("thing", seat.label, seat.number) if seat.IS_LOOKED_AT else ("peg", seat.label)


def recall_with(book, letter):
    recall = Recall(limit=120)
    recall.do(*[command_for(seat) for seat in book.seats()], ("letter", letter.text()))
    recall.do(*[("record", record) for record in book.records()])
    return recall


def page_of(lines):
    return "".join(f"{line}\n" for line in lines)


class PageCase(unittest.TestCase):
    def refuse(self, text, line):
        with self.assertRaises(InvalidPage) as caught:
            read_page(text)
        self.assertEqual(caught.exception.line, line, text)
        self.assertEqual(caught.exception.code, "InvalidPage")


class WriteTest(PageCase):
    def test_one_page(self):
        recall = read_page(PAGE)
        self.assertEqual(recall.book_now().seats(), [Thing("a", 0), Peg("p"), Thing("b", 10 ** 18 - 1)])
        self.assertEqual(recall.book_now().records(), [
            ("given", "a", 7), ("mixed", ("b", "p"), (7, 3)), ("stay", "a", "hall", 0, 5), ("swap", 3, "p", "a"),
            ("look", 10 ** 6, "b", 10),
        ])
        self.assertEqual([recall.letter_now(), recall.limit], [Letter((7, 8), (10, 10)), 120])
        self.assertEqual([recall.history(), recall.is_kept, recall.computed, recall.busy], [(0, 0), False, 0, False])
        self.assertEqual(write_page(recall), PAGE)
        self.assertEqual(write_page(recall=recall), write_page(read_page(text=PAGE)))

    def test_empty_recall(self):
        self.assertEqual(write_page(Recall()), "letter none\n")
        self.assertEqual(read_page("letter none\n"), Recall())
        with self.assertRaises(LumpError):
            read_page("letter none\n").do(("strike", 0))

    def test_other_texts_of_the_letter(self):
        for text in ["100-199 but 120, 130-139; 250", "5; 6", "none", "0-999999999999999999", "1-9 but 5"]:
            recall = read_page(f"letter {text}\npeg p\n")
            self.assertEqual(recall.letter_now(), Letter.read(text))
            self.assertEqual(write_page(recall), f"letter {Letter.read(text).text()}\npeg p\n")

    def test_there_and_back(self):
        chance = random.Random(161)
        books = [random_book(chance, 8, 32, [STAYS, LOOKS][at % 2]) for at in range(60)]
        for book in [*books, great_book(chance, 100, 3), great_book(chance, 10 ** 6, 8)]:
            letter = Letter(*[(low, low + chance.randint(0, 9)) for low in chance.sample(range(50), chance.randint(0, 5))])
            recall = recall_with(book, letter)
            page = write_page(recall)
            again = read_page(page)
            self.assertTrue(again == recall)
            self.assertEqual([again.book_now(), again.letter_now(), write_page(again)], [book, letter, page])
            self.assertEqual([again.limit, again.history(), again.is_kept, again.computed], [120, (0, 0), False, 0])
            self.assertEqual(page.count("\n"), 1 + len(book) + len(book.records()))
            self.assertEqual(again.least_now(), recall.least_now())

    def test_writing_changes_nothing(self):
        recall = read_page(PAGE)
        recall.do()
        write_page(recall)
        self.assertEqual([recall.history(), recall.is_kept, recall.computed], [(1, 0), False, 0])


class WrongPagesTest(PageCase):
    def test_values_that_are_no_pages(self):
        for value in wrong_values():
            self.refuse(value, 0)
        self.refuse("", 0)
        self.refuse("letter 7", 0)
        self.refuse("\n", 0)

    def test_line_feeds(self):
        self.refuse(PAGE[:-1], 8)
        self.refuse(PAGE + "\n", 9)
        self.refuse(PAGE + " ", 9)
        self.refuse("\n" + PAGE, 0)
        for at in range(9):
            self.refuse(page_of([*LINES[:at], "", *LINES[at:]]), at)
            self.refuse(page_of(LINES[:at]) + LINES[at], at)

    def test_wrong_lines(self):
        """Each wrong line is told, in each place behind the letter."""
        wrong = [
            "", " ", "thing", "thing c", "thing c 5 6", "thing c  5", " thing c 5", "thing c 5 ", "thing C 5", "thing c 05",
            "thing c -5", "thing c x", "thing abcdefghi 5", "thing c 1000000000000000000", "peg", "peg q r", "peg Q", "Peg q",
            "given", "given b", "given b 05", "given b 5 5", "given x 5", "mixed", "mixed b,p", "mixed b 7", "mixed b,p 7",
            "mixed b,p 7,3,4", "mixed b, p 7,3", "mixed b,,p 7,3,4", "mixed ,b,p 7,3,4", "mixed b,p 7,", "mixed b,b 7,3",
            "mixed b,p 7,03", "stay b hall 5 5", "stay b hall 5 1000001", "stay b hall 5", "stay b 5 7", "stay b Hall 5 7",
            "swap 3 b b", "swap b p 3", "swap 3 b", "swap 3 b x", "swap 1000001 b p", "look 3 p 7", "look 3 b", "look b 7",
            "look 3 b -7", "strike 0", "undo", "least", "record given b 7", "xyz", "letter", "letter ", "letter 5-3",
            "letter  5", "letters 5", "Letter 5",
        ]
        for line in wrong:
            self.refuse(page_of([line, *LINES[1:]]), 0)
            for at in [4, 9]:
                self.refuse(page_of([*LINES[:at], line, *LINES[at:]]), at)
            self.refuse(page_of([*LINES, line, "xyz"]), 9)

    def test_lines_doubled_and_moved(self):
        for at, line in enumerate(LINES):
            # A swap and a look may stand twice; the second letter is in the wrong place.
            doubled = page_of([*LINES[:at + 1], line, *LINES[at + 1:]])
            if line[:4] in ("swap", "look"):
                self.assertEqual(len(read_page(doubled)), 6)
            else:
                self.refuse(doubled, at + 1)
        self.refuse(page_of([LINES[1], LINES[0], *LINES[2:]]), 0)
        self.refuse(page_of([LINES[0], LINES[4], *LINES[1:4], *LINES[5:]]), 1)
        self.refuse(page_of([*LINES[:3], LINES[4], LINES[3], *LINES[5:]]), 4)
        self.refuse(page_of([*LINES[:2], LINES[5], LINES[2], *LINES[3:5]]), 2)
        self.refuse(page_of([*LINES, LINES[0]]), 9)
        self.refuse(page_of([*LINES, "peg q"]), 9)
        self.refuse(page_of(LINES[1:]), 0)
        self.refuse(page_of(["peg q"]), 0)

    def test_pages_that_the_recall_would_refuse(self):
        for line in ["given a 8", "given p 7", "mixed a,b 7,3", "stay a yard 4 6"]:
            self.refuse(page_of([*LINES, line]), 9)
        for line in ["thing a 5", "peg a", "thing p 5", "peg p", "thing c 0"]:
            self.refuse(page_of([*LINES[:4], line, *LINES[4:]]), 4)

    def test_limits(self):
        names = [chr(ord("a") + at) for at in range(24)]
        seats = ["letter 7", *[f"thing {name} {at}" for at, name in enumerate(names)]]
        self.assertEqual(len(read_page(page_of(seats)).book_now()), 24)
        self.refuse(page_of([*seats, "peg y"]), 25)
        self.refuse(page_of([*seats, "thing y 24"]), 25)
        records = [f"look {hour} a 7" for hour in range(120)]
        self.assertEqual(len(read_page(page_of([*seats, *records]))), 120)
        self.refuse(page_of([*seats, *records, "look 5 a 7"]), 145)
        self.refuse(page_of([*seats, "peg y", *records]), 25)


if __name__ == "__main__":
    unittest.main()
