import unittest

from lumplooks.errors import InvalidName, InvalidNumber
from lumplooks.letters import Letter
from lumplooks.seats import Peg, Seat, Thing
from tests.helpers import wrong_values


class SeatsTest(unittest.TestCase):
    def test_class_values(self):
        self.assertEqual([Seat.KIND, Thing.KIND, Peg.KIND], ["seat", "thing", "peg"])
        self.assertEqual([Seat.IS_LOOKED_AT, Thing.IS_LOOKED_AT, Peg.IS_LOOKED_AT], [False, True, False])
        self.assertEqual([Seat("ab").KIND, Thing("ab", 1).KIND, Peg("ab").KIND], ["seat", "thing", "peg"])

    def test_bases(self):
        self.assertEqual([Thing.__bases__, Peg.__bases__], [(Seat,), (Seat,)])

    def test_properties(self):
        self.assertEqual([Seat("a").label, Thing("abcdefgh", 5).label, Peg("z").label], ["a", "abcdefgh", "z"])
        self.assertEqual([Thing("a", 0).number, Thing("a", 10 ** 18 - 1).number], [0, 10 ** 18 - 1])

    def test_properties_cannot_be_assigned(self):
        with self.assertRaises(AttributeError):
            Seat("a").label = "b"
        with self.assertRaises(AttributeError):
            Thing("a", 1).number = 2

    def test_by_name(self):
        thing = Thing(number=5, name="ab")
        self.assertEqual([thing.label, thing.number], ["ab", 5])
        self.assertEqual([Seat(name="ab").label, Peg(name="ab").label], ["ab", "ab"])

    def test_text_and_repr(self):
        seats = [Seat("ab"), Thing("ab", 0), Thing("ab", 10 ** 18 - 1), Peg("ab")]
        texts = ["seat ab", "thing ab 0", "thing ab 999999999999999999", "peg ab"]
        self.assertEqual([seat.text() for seat in seats], texts)
        self.assertEqual([repr(seat) for seat in seats], [f"Seat({text})" for text in texts])

    def test_equal(self):
        self.assertTrue(Seat("ab") == Seat("ab"))
        self.assertTrue(Thing("ab", 5) == Thing("ab", 5))
        self.assertTrue(Peg("ab") == Peg("ab"))
        self.assertFalse(Thing("ab", 5) != Thing("ab", 5))

    def test_unequal(self):
        seats = [Seat("ab"), Seat("ac"), Thing("ab", 5), Thing("ac", 5), Thing("ab", 6), Peg("ab"), Peg("ac")]
        for at, one in enumerate(seats):
            for to, other in enumerate(seats):
                self.assertIs(one == other, at == to, (one, other))
                self.assertIs(one != other, at != to, (one, other))

    def test_equals_nothing_else(self):
        seats = [Seat("xy"), Thing("xy", 5), Peg("xy")]
        for seat in seats:
            for value in ["xy", "thing xy 5", ("xy", 5), 5, Letter((5, 5)), *wrong_values()]:
                self.assertIs(seat == value, False, repr(value))
                self.assertIs(value == seat, False, repr(value))

    def test_wrong_names(self):
        for value in [5, *wrong_values()]:
            for make in [Seat, Peg, lambda name: Thing(name, 5)]:
                with self.assertRaises(InvalidName) as caught:
                    make(value)
                self.assertIs(caught.exception.given, value)

    def test_names_of_0_1_8_and_9_letters(self):
        for make in [Seat, Peg, lambda name: Thing(name, 5)]:
            self.assertEqual([make("a").label, make("a" * 8).label], ["a", "a" * 8])
            for name in ["", "a" * 9]:
                with self.assertRaises(InvalidName):
                    make(name)

    def test_wrong_numbers(self):
        for value in ["5", "ab", *wrong_values()]:
            with self.assertRaises(InvalidNumber) as caught:
                Thing("ab", value)
            self.assertIs(caught.exception.given, value)

    def test_wrong_name_comes_before_wrong_number(self):
        for value in wrong_values():
            with self.assertRaises(InvalidName) as caught:
                Thing(value, value)
            self.assertIs(caught.exception.given, value)


if __name__ == "__main__":
    unittest.main()
