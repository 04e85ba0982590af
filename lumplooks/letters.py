"""Letters: sets of numbers that are unions of finitely many spans, their texts, and cuts of several letters."""

from lumplooks.errors import Clash, InvalidNumber, InvalidSpan, InvalidText
from lumplooks.numbers import is_number
from lumplooks.spans import between, crossed, is_span, joined, outside, plain_text, read_letter, shortest_text


class Letter:
    """A set of numbers, which never changes."""

    GREATEST = 999999999999999999

    def __init__(self, *spans):
        for at, span in enumerate(spans):
            if not is_span(span):
                raise InvalidSpan(at)
        self._runs = joined(spans)

    def runs(self):
        """The ascending list of the greatest spans."""
        return list(self._runs)

    def walk(self):
        """A generator of the runs."""
        yield from self._runs

    @property
    def many(self):
        """How many numbers the letter has."""
        return sum([high - low + 1 for low, high in self._runs])

    def __contains__(self, number):
        return is_number(number) and any([low <= number <= high for low, high in self._runs])

    def __or__(self, other):
        spans = [*self._runs, *other._runs]
        return Letter(*spans)

    def __and__(self, other):
        spans = crossed(self._runs, other._runs)
        return Letter(*spans)

    def __sub__(self, other):
        spans = crossed(self._runs, outside(other._runs))
        return Letter(*spans)

    def __eq__(self, other):
        return isinstance(other, Letter) and self._runs == other._runs

    def __bool__(self):
        return bool(self._runs)

    def within(self, other):
        """Whether the other letter has all numbers of this one."""
        return (self & other) == self

    def widened(self, by):
        """The letter of all numbers that differ by at most by from a number of this one."""
        if not is_number(by):
            raise InvalidNumber(by)
        spans = [(max(0, low - by), min(Letter.GREATEST, high + by)) for low, high in self._runs]
        return Letter(*spans)

    def text(self):
        """The text with one term for each run, without exceptions."""
        return plain_text(self._runs)

    def shortest(self):
        """The least one of the texts with the fewest characters; the exceptions lie between neighbouring runs."""
        return shortest_text(self._runs, between(self._runs))

    def __repr__(self):
        return f"Letter({self.text()})"

    @staticmethod
    def read(text):
        """The letter that a text writes."""
        spans = read_letter(text) if isinstance(text, str) else None
        if spans is None:
            raise InvalidText(text)
        return Letter(*spans)


def cut(*letters):
    """The tuples (low, high, places) for the longest spans of numbers that are in the same of some letters."""
    turns = {0: [], Letter.GREATEST + 1: []}
    for place, letter in enumerate(letters):
        for low, high in letter.runs():
            turns.setdefault(low, []).append(place)
            turns.setdefault(high + 1, []).append(place)
    # A letter turns at most once at each number, because its runs do not touch: so no two pieces can be joined.
    lows = sorted(turns)
    inside = [False] * len(letters)
    pieces = []
    for low, end in zip(lows, lows[1:]):
        for place in turns[low]:
            inside[place] = not inside[place]
        places = [at for at, is_inside in enumerate(inside) if is_inside]
        pieces.append((low, end - 1, tuple(places)))
    return pieces


def letter_for(wanted, others):
    """The shortest text of a letter that has all wanted numbers and none of the others."""
    for number in [*wanted, *others]:
        if not is_number(number):
            raise InvalidNumber(number)
    kept = set(wanted)
    for at, number in enumerate(others):
        if number in kept:
            raise Clash(at)
    rows = rows_of(wanted, others)
    terms = [(low, high) for low, high, is_wanted in rows if is_wanted]
    # Rows of wanted numbers and of others take turns; others before or behind all wanted ones are no exceptions.
    gaps = [(low, high) for low, high, is_wanted in rows[1:-1] if not is_wanted]
    return shortest_text(terms, gaps)


def rows_of(wanted, others):
    """The longest rows of numbers that are all wanted or all others, as tuples (low, high, whether wanted)."""
    kept = set(wanted)
    rows = []
    for number in sorted(set([*wanted, *others])):
        is_wanted = number in kept
        if rows and rows[-1][2] == is_wanted:
            rows[-1] = (rows[-1][0], number, is_wanted)
        else:
            rows.append((number, number, is_wanted))
    return rows
