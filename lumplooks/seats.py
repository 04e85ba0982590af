"""Seats: things, at which anybody can look, and pegs, at which nobody can."""

from lumplooks.errors import InvalidName, InvalidNumber
from lumplooks.numbers import is_name, is_number


class Seat:
    """The base class of things and pegs. A seat never changes."""

    KIND = "seat"
    IS_LOOKED_AT = False

    def __init__(self, name):
        if not is_name(name):
            raise InvalidName(name)
        self._name = name

    @property
    def label(self):
        """The name."""
        return self._name

    def text(self):
        """The kind and the name."""
        return f"{self.KIND} {self._name}"

    def __eq__(self, other):
        return isinstance(other, Seat) and self.KIND == other.KIND and self._name == other._name

    def __repr__(self):
        return f"Seat({self.text()})"


class Thing(Seat):
    """A seat with a number of its own."""

    KIND = "thing"
    IS_LOOKED_AT = True

    def __init__(self, name, number):
        super().__init__(name)
        if not is_number(number):
            raise InvalidNumber(number)
        self._number = number

    @property
    def number(self):
        """The number of the thing itself, not of the part in it."""
        return self._number

    def text(self):
        """The kind, the name and the number."""
        return f"{self.KIND} {self._name} {self._number}"

    def __eq__(self, other):
        return isinstance(other, Thing) and self._name == other._name and self._number == other._number


class Peg(Seat):
    """A place that nobody can look at."""

    KIND = "peg"

    def __init__(self, name):
        super().__init__(name)
