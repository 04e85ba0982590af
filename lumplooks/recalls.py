"""Recalls: a book and a letter that are changed step by step, with undo and redo, and with a case that is kept."""

from lumplooks.books import Book
from lumplooks.cases import Case
from lumplooks.errors import Full, InvalidCommand, InvalidLimit, NothingLeft, TooMany, UnknownName
from lumplooks.letters import Letter
from lumplooks.lumps import looks
from lumplooks.numbers import is_number
from lumplooks.seats import Peg, Thing


class Recall:
    """A book and a letter, their earlier and later states, and what was computed for the present one."""

    MOST = 120

    def __init__(self, *, limit=60):
        self._book = Book()
        self._letter = Letter()
        # The pairs (book, letter) before the steps that can be undone, and behind those that can be made again.
        self._past = []
        self._future = []
        self._kept = None
        self._computed = 0
        self._busy = False
        self.set_limit(limit)

    @property
    def limit(self):
        """The greatest number of records."""
        return self._limit

    @limit.setter
    def limit(self, value):
        self.set_limit(value)

    def set_limit(self, value):
        """Assign the limit, which is not less than the number of records."""
        if not is_number(value, max(1, len(self)), Recall.MOST):
            raise InvalidLimit(value)
        self._limit = value

    def do(self, *commands):
        """Do all commands as one step, or none if one of them raises an error."""
        for at, command in enumerate(commands):
            if not is_command(command):
                raise InvalidCommand(at)
        self._busy = True
        try:
            book, letter = self._book, self._letter
            for command in commands:
                book, letter = after(command, book, letter, self._limit)
            self._past.append((self._book, self._letter))
            self._future = []
            self._put(book, letter)
        finally:
            self._busy = False

    def undo(self):
        """Take the last step back."""
        if not self._past:
            raise NothingLeft()
        self._future.append((self._book, self._letter))
        book, letter = self._past.pop()
        self._put(book, letter)

    def redo(self):
        """Make the step again that was taken back last."""
        if not self._future:
            raise NothingLeft()
        self._past.append((self._book, self._letter))
        book, letter = self._future.pop()
        self._put(book, letter)

    def history(self):
        """The numbers of steps that can be undone and redone."""
        return len(self._past), len(self._future)

    @property
    def busy(self):
        """Whether commands are being done."""
        return self._busy

    def book_now(self):
        """The present book."""
        return self._book

    def letter_now(self):
        """The present letter."""
        return self._letter

    def least_now(self):
        """The least number of false records."""
        return self.case().least

    def looks(self):
        """The number of looks that settle everything."""
        return looks(self.case())

    def fate(self, name):
        """The fate of a seat."""
        if name not in self._book:
            raise UnknownName(name)
        return self.case().fates()[name]

    def case(self):
        """The kept case, computed if there is none."""
        if self._kept is None:
            self._kept = Case(self._book, self._letter)
            self._computed += 1
        return self._kept

    @property
    def is_kept(self):
        """Whether a case is kept."""
        return self._kept is not None

    @property
    def computed(self):
        """How often a case was computed."""
        return self._computed

    def twin(self):
        """An independent recall in the same state, with the same steps and the same kept case."""
        other = recall_of(self._book, self._letter, self._limit)
        other._past = list(self._past)
        other._future = list(self._future)
        other._kept = self._kept
        other._computed = self._computed
        return other

    def __contains__(self, name):
        return name in self._book

    def __len__(self):
        return len(self._book.records())

    def __eq__(self, other):
        return isinstance(other, Recall) and self._book == other._book and self._letter == other._letter

    def __repr__(self):
        return f"Recall({len(self._book)} seats, {len(self._book.records())} records)"

    def _put(self, book, letter):
        """Put a book and a letter in place; what is kept stays if they are equal to the present ones."""
        if book != self._book or letter != self._letter:
            self._kept = None
        self._book = book
        self._letter = letter


def recall_of(book, letter, limit):
    """A recall without steps; the limit may be less than the number of records, as behind an undo."""
    recall = Recall(limit=limit)
    recall._book = book
    recall._letter = letter
    return recall


def with_thing(book, letter, items, limit):
    """A thing more at the end."""
    name, number = items
    return Book([*book.seats(), Thing(name, number)], book.records()), letter


def with_peg(book, letter, items, limit):
    """A peg more at the end."""
    return Book([*book.seats(), Peg(items[0])], book.records()), letter


def with_told(book, letter, items, limit):
    """A record more at the end, if the limit lets it."""
    try:
        longer = book.with_record(items[0])
    except TooMany:
        raise Full(limit) from None
    if len(longer.records()) > limit:
        raise Full(limit)
    return longer, letter


def with_strike(book, letter, items, limit):
    """A record less."""
    return book.without(items[0]), letter


def with_letter(book, letter, items, limit):
    """Another letter."""
    return book, Letter.read(items[0])


ACTIONS = {"thing": with_thing, "peg": with_peg, "record": with_told, "strike": with_strike, "letter": with_letter}
SIZES = {"thing": 3, "peg": 2, "record": 2, "strike": 2, "letter": 2}


def is_command(value):
    """Whether any value is a command with as many items as its word asks for."""
    if not isinstance(value, tuple) or len(value) == 0 or not isinstance(value[0], str):
        return False
    return value[0] in SIZES and len(value) == SIZES[value[0]]


def after(command, book, letter, limit):
    """The book and the letter behind a command."""
    action = ACTIONS[command[0]]
    return action(book, letter, command[1:], limit)
