"""What several tests need: wrong values, and plain searches through all ways, which are slow but easy to follow."""

import re
from itertools import product

from lumplooks.errors import InvalidNumber, NothingLeft
from lumplooks.letters import Letter
from lumplooks.seats import Peg, Seat, Thing

GREATEST = 10 ** 18 - 1


def nested(depth, inner):
    """A value inside tuples and lists in turn, that many deep."""
    value = inner
    for level in range(depth):
        value = (value,) if level % 2 else [value]
    return value


# No value here is a number, a name, a span or a text of a letter. Each is made anew by the call,
# so that a test can tell whether it was changed.
def wrong_values():
    return [
        None, True, False, -1, -(10 ** 39), GREATEST + 1, 10 ** 40 - 1,
        "", " ", "Ab", "a b", "abcdefghi", "a1", "_", "\n", "5-3", "05", "5 ", "-5", "x" * 4000,
        Letter(), Letter((5, 9)), Seat("ab"), Thing("ab", 5), Peg("ab"), InvalidNumber(5), NothingLeft(),
        (), [], (5,), [5], [5, 9], (9, 5), (5, 9, 9), (None, 5), (5, True), (False, 5), (-1, 5), (5, GREATEST + 1),
        ("5", "9"), ["ab"], ("ab",), (Letter(), 5), ([5], [9]), ((5, 9),), [[]], ((), []),
        nested(5, 5), nested(5, None), nested(5, "ab"), nested(4, Letter((5, 9))),
    ]


def span(low, high):
    return str(low) if low == high else f"{low}-{high}"


def terms_of(rows, gaps, joins):
    """The terms of one way: joins tells for each gap whether it is an exception."""
    terms = []
    first = 0
    for at in range(len(rows)):
        if at + 1 < len(rows) and joins[at]:
            continue
        term = span(rows[first][0], rows[at][1])
        if first < at:
            term += " but " + ", ".join(span(*gap) for gap in gaps[first:at])
        terms.append(term)
        first = at + 1
    return terms


def best_by_all_ways(rows, gaps):
    """The best of all texts: the fewest characters, then the fewest spans, then the least text."""
    if not rows:
        return "none"
    texts = ["; ".join(terms_of(rows, gaps, joins)) for joins in product([False, True], repeat=len(rows) - 1)]
    return min(texts, key=lambda text: (len(text), len(re.findall("[0-9]+(?:-[0-9]+)?", text)), text))


def best_by_suffixes(rows, gaps):
    """The same, in a time with which the longest lists can be checked: the best text of each suffix, whole."""
    best = [(-2, "")]
    for first in reversed(range(len(rows))):
        ways = []
        for last in range(first, len(rows)):
            term = span(rows[first][0], rows[last][1])
            if first < last:
                term += " but " + ", ".join(span(*gap) for gap in gaps[first:last])
            size, rest = best[len(rows) - 1 - last]
            ways.append((len(term) + 2 + size, term + ("; " + rest if rest else "")))
        best.append(min(ways))
    return best[-1][1] or "none"


def runs_of(numbers):
    """The runs of some numbers."""
    runs = []
    for number in sorted(numbers):
        if runs and number == runs[-1][1] + 1:
            runs[-1] = (runs[-1][0], number)
        else:
            runs.append((number, number))
    return runs


def gaps_of(runs):
    return [(one[1] + 1, other[0] - 1) for one, other in zip(runs, runs[1:])]


def rows_of(wanted, others):
    """The longest rows of wanted numbers, and the longest rows of others between them."""
    rows = []
    for number in sorted({*wanted, *others}):
        if rows and (rows[-1][-1] in wanted) == (number in wanted):
            rows[-1].append(number)
        else:
            rows.append([number])
    wanted_at = [at for at, row in enumerate(rows) if row[0] in wanted]
    ends = [(row[0], row[-1]) for row in rows]
    return [ends[at] for at in wanted_at], [ends[at + 1] for at in wanted_at[:-1]]


def written_span(text):
    """The span of a text, or None; by patterns, as [4] tells it."""
    if not re.fullmatch("(0|[1-9][0-9]{0,17})(-(0|[1-9][0-9]{0,17}))?", text):
        return None
    ends = [int(word) for word in text.split("-")]
    if len(ends) == 2 and ends[0] >= ends[1]:
        return None
    return ends[0], ends[-1]


def numbers_of_text(text):
    """The set of the numbers of a text of a letter with few numbers, None for any other text."""
    if text == "none":
        return set()
    numbers = set()
    end = -1
    for term in text.split("; "):
        words = term.split(" but ")
        found = [written_span(word) for part in words[1:] for word in part.split(", ")]
        whole = written_span(words[0])
        if len(words) > 2 or whole is None or None in found or whole[0] <= end:
            return None
        low, end = whole
        before = low
        for one, other in found:
            if one <= before:
                return None
            before = other
        if found and before >= end:
            return None
        numbers |= set(range(low, end + 1))
        for one, other in found:
            numbers -= set(range(one, other + 1))
    return numbers
