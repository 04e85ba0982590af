import unittest

from lumplooks import errors
from tests.helpers import wrong_values

UNDER_LUMP_ERROR = {
    "InvalidNumber": "given", "InvalidName": "given", "InvalidSpan": "at", "InvalidText": "given",
    "InvalidSeat": "at", "InvalidRecord": "at", "Clash": "at", "DuplicateName": "name",
    "DuplicateNumber": "given", "TooMany": "most", "Full": "limit", "NotAThing": "name",
    "Contradiction": "at", "InvalidRule": "given", "InvalidCommand": "at", "InvalidLimit": "given",
    "InvalidPage": "line",
}
WITH_PARAMETER = {**UNDER_LUMP_ERROR, "UnknownName": "name"}


class ErrorsTest(unittest.TestCase):
    def test_direct_bases(self):
        self.assertEqual(errors.LumpError.__bases__, (ValueError,))
        self.assertEqual(errors.Missing.__bases__, (LookupError,))
        self.assertEqual(errors.UnknownName.__bases__, (errors.Missing,))
        self.assertEqual(errors.NothingLeft.__bases__, (IndexError,))
        for name in UNDER_LUMP_ERROR:
            self.assertEqual(getattr(errors, name).__bases__, (errors.LumpError,), name)

    def test_there_are_no_other_classes(self):
        found = {name for name, value in vars(errors).items() if isinstance(value, type)}
        self.assertEqual(found, {*WITH_PARAMETER, "LumpError", "Missing", "NothingLeft"})

    def test_parameter_is_attribute_by_position_and_by_name(self):
        for name, word in WITH_PARAMETER.items():
            made = getattr(errors, name)
            for value in [5, *wrong_values()]:
                by_position, by_name = made(value), made(**{word: value})
                self.assertIs(getattr(by_position, word), value)
                self.assertIs(getattr(by_name, word), value)
                self.assertEqual([by_position.code, by_name.code], [name, name])

    def test_parameter_is_needed(self):
        for name in WITH_PARAMETER:
            with self.assertRaises(TypeError):
                getattr(errors, name)()

    def test_nothing_left_has_no_parameter(self):
        self.assertEqual(errors.NothingLeft().code, "NothingLeft")
        with self.assertRaises(TypeError):
            errors.NothingLeft(5)

    def test_base_classes_have_no_code(self):
        self.assertFalse(hasattr(errors.LumpError(), "code"))
        self.assertFalse(hasattr(errors.Missing(), "code"))

    def test_errors_are_caught_by_their_bases(self):
        with self.assertRaises(ValueError):
            raise errors.Clash(3)
        with self.assertRaises(LookupError):
            raise errors.UnknownName("ab")
        with self.assertRaises(IndexError):
            raise errors.NothingLeft()
        self.assertNotIsInstance(errors.NothingLeft(), (errors.LumpError, errors.Missing))
        self.assertNotIsInstance(errors.UnknownName(5), errors.LumpError)


if __name__ == "__main__":
    unittest.main()
