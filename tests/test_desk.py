"""The desk: its answers to commands, questions and lines of no form, and what they change in its recall."""

import random
import unittest

from lumplooks.cases import Case
from lumplooks.desk import Desk
from lumplooks.letters import Letter
from lumplooks.lumps import looks, plan
from lumplooks.pages import read_page, write_page
from lumplooks.recalls import Recall
from lumplooks.seats import Peg, Thing
from tests.samples import LOOKS, STAYS, great_book, random_book
from tests.test_pages import LINES, recall_with

# Two things that meet, of which one bears the named part.
TWO = ["letter 7", "thing a 1", "thing b 2", "given a 7", "given b 3", "stay a hall 0 2", "stay b hall 1 2"]


def desk_of(lines):
    desk = Desk()
    assert all(desk(line) == "done" for line in lines)
    return desk


def seen(recall):
    return [
        recall.book_now(), recall.letter_now(), recall.history(), recall.limit, recall.computed, recall.is_kept,
    ]


class CommandsTest(unittest.TestCase):
    def test_new_desk(self):
        desk = Desk()
        self.assertEqual([desk.log(), len(desk), repr(desk)], [[], 0, "Desk(0 lines)"])
        self.assertEqual([desk.recall().limit, len(desk.recall()), desk.recall().history()], [120, 0, (0, 0)])
        self.assertIs(desk.recall(), desk.recall())
        self.assertIsNot(desk.recall(), Desk().recall())
        with self.assertRaises(TypeError):
            Desk(Recall())

    def test_this_very_recall(self):
        for recall in [Recall(), Recall(limit=3), read_page("letter 7\nthing a 1\n")]:
            desk = Desk(recall=recall)
            self.assertIs(desk.recall(), recall)
            limit = recall.limit
            desk("peg q")
            self.assertEqual([recall.book_now().names()[-1], recall.limit], ["q", limit])

    def test_lines_of_a_page(self):
        desk = desk_of(LINES)
        recall = desk.recall()
        self.assertEqual(recall.book_now().seats(), [Thing("a", 0), Peg("p"), Thing("b", 10 ** 18 - 1)])
        self.assertEqual(recall.book_now().records(), [
            ("given", "a", 7), ("mixed", ("b", "p"), (7, 3)), ("stay", "a", "hall", 0, 5), ("swap", 3, "p", "a"),
            ("look", 10 ** 6, "b", 10),
        ])
        self.assertEqual([recall.letter_now(), recall.history()], [Letter((7, 8), (10, 10)), (9, 0)])
        self.assertEqual(desk.log(), [(line, "done") for line in LINES])
        self.assertEqual([len(desk), repr(desk)], [9, "Desk(9 lines)"])
        self.assertEqual(write_page(recall), "".join(f"{line}\n" for line in LINES))

    def test_letters(self):
        desk = Desk()
        for text in ["100-199 but 120, 130-139; 250", "none", "5; 6", "0-9 but 3"]:
            self.assertEqual(desk(f"letter {text}"), "done")
            self.assertEqual(desk.recall().letter_now(), Letter.read(text))
        self.assertEqual(desk.recall().history(), (4, 0))

    def test_strike_undo_and_redo(self):
        desk = desk_of(TWO)
        recall = desk.recall()
        self.assertEqual([desk("strike 1"), len(recall), desk("undo"), len(recall), desk("redo"), len(recall)],
                         ["done", 3, "done", 4, "done", 3])
        self.assertEqual(desk("redo"), "error NothingLeft")
        self.assertEqual([desk("undo") for _ in range(9)], ["done"] * 8 + ["error NothingLeft"])
        self.assertEqual([recall.history(), len(recall.book_now())], [(0, 8), 0])
        self.assertEqual([desk("strike 0"), desk("strike 999999999999999999")], ["error InvalidNumber"] * 2)

    def test_say_and_call(self):
        desk = Desk()
        self.assertEqual([desk.say("peg p"), desk("peg p"), desk.say(line="undo"), desk(line="x")],
                         ["done", "error DuplicateName", "done", "unknown"])
        log = desk.log()
        self.assertEqual(log, [("peg p", "done"), ("peg p", "error DuplicateName"), ("undo", "done"), ("x", "unknown")])
        log.clear()
        self.assertEqual([len(desk), len(desk.log()), repr(desk)], [4, 4, "Desk(4 lines)"])


class QuestionsTest(unittest.TestCase):
    def test_one_recall(self):
        desk = desk_of(TWO)
        for line, answer in [
            ("least", "0"), ("fate a", "perhaps"), ("fate b", "perhaps"), ("looks", "1"), ("plan", "a"), ("write", "1-2"),
            ("look 3 b 5", "done"), ("fate a", "sure"), ("fate b", "never"), ("plan", "none"), ("looks", "0"),
            ("write", "1"), ("look 4 a 4", "done"), ("least", "1"), ("write", "1-2"), ("letter none", "done"),
            ("write", "none"), ("fate c", "error UnknownName"), ("peg c", "done"), ("fate c", "perhaps"),
        ]:
            self.assertEqual(desk(line), answer)
        self.assertEqual(desk.log()[-1], ("fate c", "perhaps"))

    def test_random_recalls(self):
        chance = random.Random(171)
        for at in range(60):
            book = random_book(chance, 7, 20, [STAYS, LOOKS][at % 2])
            case = Case(book, Letter((7, 8)))
            desk = Desk(recall=recall_with(book, Letter((7, 8))))
            self.assertEqual([desk("least"), desk("looks")], [str(case.least), str(looks(case))])
            self.assertEqual(desk("plan"), " ".join(plan(case)) or "none")
            self.assertEqual(desk("write"), case.letter_to_owners())
            for name, fate in case.fates().items():
                self.assertEqual(desk(f"fate {name}"), fate)
            self.assertEqual(desk.recall().computed, 1)

    def test_each_question_computes(self):
        for line in ["least", "fate a", "looks", "plan", "write"]:
            desk = desk_of(TWO)
            recall = desk.recall()
            self.assertEqual([recall.is_kept, recall.computed], [False, 0])
            for _ in range(2):
                desk(line)
                self.assertEqual([recall.is_kept, recall.computed], [True, 1])
            self.assertEqual([desk("letter 7; 8"), recall.is_kept], ["done", False])
            desk(line)
            self.assertEqual([desk("undo"), recall.is_kept, recall.computed], ["done", False, 2])
            desk(line)
            self.assertEqual([desk("letter 7"), recall.is_kept, recall.computed], ["done", True, 3])

    def test_lines_that_compute_nothing(self):
        desk = desk_of(TWO)
        for line in ["fate c", "fate  a", "fate", "plan a", "Least", "strike 9", "redo", "letter 5-3", "write\n", "undo x"]:
            desk(line)
        self.assertEqual([desk.recall().is_kept, desk.recall().computed], [False, 0])


class FormsTest(unittest.TestCase):
    def check(self, desk, lines, answer):
        """These lines have this answer, change nothing, and are logged."""
        recall = desk.recall()
        before, many = seen(recall), len(desk)
        for line in lines:
            self.assertEqual(desk(line), answer, line)
        self.assertEqual([seen(recall), len(desk)], [before, many + len(lines)])
        self.assertEqual(desk.log()[many:], [(line, answer) for line in lines])

    def test_lines_of_no_form(self):
        for desk in [Desk(), desk_of(TWO)]:
            self.check(desk, [
                "", " ", "\n", "x", "hello there", "letter", "letter ", "letter  5", " letter 5", "letter 5 ", "Letter 5",
                "letter 5-9  but 6", "letter 5\n", "thing", "thing c", "thing c 5 6", "thing c x", "thing c 05", "thing c -5",
                "thing c 1000000000000000000", "thing c 5\n", "thing  c 5", "thing\nc 5", "peg", "peg q r", "peg q ", "peg\n",
                "given", "given a", "given a 7 8", "given a x", "given 7 a", "mixed", "mixed a,b", "mixed a,b 7,x",
                "mixed a,b 7,", "mixed a, 7", "mixed ,a 7", "mixed a,,b 7,8", "mixed a b 7,8", "mixed a,b 7 8", "mixed a,b ,",
                "mixed , 7", "mixed a,b 07,8", "stay a hall 5", "stay a hall 5 x", "stay a hall 5 6 7", "stay a 5 6 hall",
                "swap a b 5", "swap 5 a", "swap 5 a b c", "swap x a b", "look 5 a", "look a 5 7", "look 5 a x", "look 5 a 7 8",
                "strike", "strike x", "strike -1", "strike 01", "strike 0 1", "strike 1000000000000000000", "undo 1", "redo 1",
                "Undo", "least 1", "fate", "fate ", "fate a\n", "fate \n", "fate\na", "strike 0\n",
                "strike ", "undo ", "redo \n", "plan a b", "least 1 2 3", "undo x y", "fate a b", "fate  a", "fate a ", "looks a", "plan a", "plan none", "write 5",
                "write\n", "least\nleast", "done", "unknown", "none", "record given a 7", "limit 5", "case", "twin", "history",
            ], "unknown")

    def test_errors_of_lines_of_a_right_form(self):
        desk = desk_of(TWO)
        for code, lines in [
            ("InvalidName", ["thing A 1", "thing abcdefghi 1", "peg a1", "peg a,b", "thing 5 5", "peg 7"]),
            ("DuplicateName", ["thing a 1", "peg b", "thing b 99"]),
            ("DuplicateNumber", ["thing c 1", "thing c 2"]),
            ("InvalidRecord", [
                "given c 7", "given A,b 7", "given 5 7", "mixed a 7", "mixed a,b 7", "mixed a,b 7,8,9", "mixed a,a 7,8",
                "mixed a,x 7,8", "mixed A,-,! 7", "stay a Hall 5 6", "stay a hall 6 6", "stay a hall 6 5",
                "stay a hall 5 1000001", "stay c hall 5 6", "stay a abcdefghi 5 6", "swap 5 a a", "swap 5 a x",
                "swap 999999999999999999 a b", "look 5 x 7", "look 1000001 a 7", "look 5 ! 7",
            ]),
            ("Clash", ["given a 7", "mixed a,b 7,8", "stay a hall 1 3", "stay b yard 0 2"]),
            ("InvalidText", [
                "letter x", "letter 5-3", "letter 5;6", "letter none none", "letter 5 but 5", "letter but", "letter 05",
                "letter 5,", "letter ! ?",
            ]),
            ("InvalidNumber", ["strike 4", "strike 999999999999999999"]),
            ("UnknownName", ["fate c", "fate A", "fate 5", "fate a,b", "fate fate"]), ("NothingLeft", ["redo"]),
        ]:
            self.check(desk, lines, f"error {code}")

    def test_a_peg_is_not_looked_at(self):
        self.check(desk_of(["peg p"]), ["look 5 p 7"], "error InvalidRecord")

    def test_full_recalls(self):
        desk = Desk(recall=Recall(limit=1))
        self.assertEqual([desk("thing a 1"), desk("look 5 a 7")], ["done", "done"])
        self.check(desk, ["look 5 a 7", "given a 7"], "error Full")
        self.check(desk, ["look 5 b 7"], "error InvalidRecord")
        desk = Desk()
        names = [chr(ord("a") + at) for at in range(24)]
        for at, name in enumerate(names):
            self.assertEqual(desk(f"thing {name} {at}"), "done")
        self.check(desk, ["peg y", "thing y 24"], "error TooMany")
        self.check(desk, ["peg a", "thing x 24"], "error DuplicateName")
        self.check(desk, ["thing y 3"], "error DuplicateNumber")
        for hour in range(120):
            self.assertEqual(desk(f"look {hour} a 7"), "done")
        self.check(desk, ["look 5 a 7"], "error Full")


class TwoDesksTest(unittest.TestCase):
    def test_two_desks_at_one_recall(self):
        recall = Recall()
        one, other = Desk(recall=recall), Desk(recall=recall)
        for at, line in enumerate(TWO):
            self.assertEqual([one, other][at % 2](line), "done")
        self.assertEqual([one("write"), other("write"), recall.computed], ["1-2", "1-2", 1])
        self.assertEqual([other("undo"), one("least"), one("redo"), other("looks")], ["done", "0", "done", "1"])
        self.assertEqual([len(one), len(other)], [4 + 3, 3 + 3])
        self.assertEqual(one.log()[:2], [(TWO[0], "done"), (TWO[2], "done")])

    def test_a_recall_that_is_changed_by_itself(self):
        desk = desk_of(TWO)
        recall = desk.recall()
        self.assertEqual([desk("write"), desk("looks"), desk("least")], ["1-2", "1", "0"])
        recall.do(("record", ("look", 3, "b", 5)), ("record", ("look", 3, "a", 5)))
        self.assertEqual([desk("write"), desk("looks"), desk("least")], ["1-2", "2", "1"])
        recall.undo()
        recall.do(("record", ("look", 3, "b", 5)))
        self.assertEqual([desk("write"), desk("looks"), desk("least")], ["1", "0", "0"])
        recall.do(("letter", "3"))
        self.assertEqual([desk("write"), desk("plan"), desk("looks"), recall.computed], ["1", "none", "0", 4])

    def test_told_cases_stay(self):
        desk = desk_of(TWO)
        case = desk.recall().case()
        told = [case.fates(), case.least, case.letter_to_owners()]
        for line in ["letter 3", "strike 0", "peg q", "write", "undo", "undo"]:
            desk(line)
        self.assertEqual([case.fates(), case.least, case.letter_to_owners()], told)
        self.assertEqual([desk("redo"), desk("undo"), desk("undo"), desk("write")], ["done", "done", "done", "1-2"])


class LongRowsTest(unittest.TestCase):
    def test_pages_lines_and_logs_give_the_same_recall(self):
        """Long rows of deeds at a recall by calls and at a desk by lines; then all that was written, done again."""
        chance = random.Random(172)
        for _ in range(4):
            book = great_book(chance, 80, 3)
            page = write_page(recall_with(book, Letter((7, 8)))).split("\n")[:-1]
            desk, recall = Desk(), Recall(limit=120)
            todo = list(page)
            while todo:
                draw = chance.random()
                if draw < 0.1:
                    line = chance.choice(["undo", "redo", f"strike {chance.randint(0, 5)}", "letter 5; 9", "peg peg"])
                elif draw < 0.2:
                    line = chance.choice(["least", "looks", "write", "plan", "fate a", "fate zz", "x"])
                else:
                    line = todo.pop(0)
                self.assertEqual(desk(line), self.by_calls(recall, line))
                self.assertEqual(seen(desk.recall()), seen(recall))
            for line in page:
                desk(line)
                self.by_calls(recall, line)
            self.assertEqual(seen(desk.recall()), seen(recall))
            again = read_page(write_page(recall))
            self.assertTrue(again == recall and again == desk.recall())
            other = desk_of(write_page(recall).split("\n")[:-1])
            self.assertTrue(other.recall() == recall)
            replayed = Desk()
            for line, answer in desk.log():
                self.assertEqual(replayed(line), answer)
            self.assertEqual(seen(replayed.recall()), seen(recall))

    def by_calls(self, recall, line):
        """What a line asks for, as a call of the recall itself."""
        words = line.split(" ")
        try:
            if words[0] in ("undo", "redo"):
                [recall.undo, recall.redo][words[0] == "redo"]()
            elif words[0] == "strike":
                recall.do(("strike", int(words[1])))
            elif words[0] == "letter":
                recall.do(("letter", line[7:]))
            elif words[0] == "peg":
                recall.do(("peg", words[1]))
            elif words[0] == "thing":
                recall.do(("thing", words[1], int(words[2])))
            elif words[0] == "mixed":
                recall.do(("record", ("mixed", tuple(words[1].split(",")), tuple(map(int, words[2].split(","))))))
            elif words[0] in ("given", "stay", "swap", "look"):
                items = [int(word) if word.isdigit() else word for word in words[1:]]
                recall.do(("record", (words[0], *items)))
            elif words[0] == "x":
                return "unknown"
            elif words[0] == "fate":
                return recall.fate(words[1])
            else:
                return {
                    "least": lambda: str(recall.least_now()), "looks": lambda: str(recall.looks()),
                    "write": lambda: recall.case().letter_to_owners(), "plan": lambda: " ".join(plan(recall.case())) or "none",
                }[words[0]]()
        except (ValueError, LookupError) as error:
            return f"error {error.code}"
        return "done"


if __name__ == "__main__":
    unittest.main()
