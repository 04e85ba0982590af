"""Lists of spans (low, high): joined, crossed, written and read. A list of runs is ascending, with gaps between."""

from lumplooks.numbers import GREATEST, is_number, number_in

EMPTY = "none"
NEXT_TERM = "; "
NEXT_EXCEPTION = ", "
BUT = " but "


def is_span(value):
    """Whether any value is a tuple of two numbers of which the first one is not greater."""
    if not isinstance(value, tuple) or len(value) != 2:
        return False
    return is_number(value[0]) and is_number(value[1]) and value[0] <= value[1]


def joined(spans):
    """The runs of all numbers of some spans, which may overlap and stand in any order."""
    runs = []
    for low, high in sorted(spans):
        if runs and low <= runs[-1][1] + 1:
            runs[-1] = (runs[-1][0], max(runs[-1][1], high))
        else:
            runs.append((low, high))
    return runs


def crossed(one, other):
    """The runs of the numbers that are in both of two lists of runs."""
    runs = []
    at = to = 0
    while at < len(one) and to < len(other):
        low = max(one[at][0], other[to][0])
        high = min(one[at][1], other[to][1])
        if low <= high:
            runs.append((low, high))
        if one[at][1] < other[to][1]:
            at += 1
        else:
            to += 1
    return runs


def between(rows):
    """The spans between neighbours in an ascending list of spans; a span that would be empty ends below its low."""
    return [(left[1] + 1, right[0] - 1) for left, right in zip(rows, rows[1:])]


def outside(spans):
    """The runs of the numbers that are in none of some ascending spans, which may touch."""
    framed = [(-1, -1), *spans, (GREATEST + 1, GREATEST + 1)]
    return [(low, high) for low, high in between(framed) if low <= high]


def span_text(span):
    """The text of one span."""
    low, high = span
    return f"{low}" if low == high else f"{low}-{high}"


def plain_text(runs):
    """The text with one term for each run, without exceptions."""
    return NEXT_TERM.join([span_text(run) for run in runs]) or EMPTY


def shortest_text(rows, gaps):
    """The best text whose terms begin and end with rows and whose exceptions are the gaps between these rows.

    Both lists are ascending, and each gap lies between a row and the next one. The best text has the fewest
    characters, and is the least one of these. Each text has one span for each row, as a term or as the
    exception before the row; so the number of spans never decides.
    """
    lasts = last_rows(rows, gaps)
    terms = []
    first = 0
    while first < len(rows):
        terms.append(term_text(rows, gaps, first, lasts[first]))
        first = lasts[first] + 1
    return NEXT_TERM.join(terms) or EMPTY


def term_text(rows, gaps, first, last):
    """The text of the term from the first to the last of some rows, with the gaps between as exceptions."""
    term = span_text((rows[first][0], rows[last][1]))
    if first == last:
        return term
    exceptions = NEXT_EXCEPTION.join([span_text(gap) for gap in gaps[first:last]])
    return f"{term}{BUT}{exceptions}"


def last_rows(rows, gaps):
    """For each row, the last row of the term that begins with it in the best text of this row and the later ones.

    A way is a tuple (characters, beginning, last). The beginnings of two ways differ before one of them ends,
    because no two rows end with the same number; so they tell which of two texts with as many characters is
    less, and no whole text is needed.
    """
    lasts = []
    behind = 0
    farther = None
    for at in reversed(range(len(rows))):
        low, high = rows[at]
        alone = span_text(rows[at])
        ways = [(len(alone) + behind, f"{alone};", at)]
        # What stands behind the dash of a term with exceptions that ends with this row, or with a later one.
        ends = [(len(str(high)) + behind, f"{high} ", at)]
        if farther is not None:
            many = farther[0] + len(NEXT_EXCEPTION) + len(span_text(gaps[at]))
            ends.append((many, farther[1], farther[2]))
            # The first exception has the word before it, and no comma.
            with_word = len(f"{low}-{BUT}") - len(NEXT_EXCEPTION) + many
            ways.append((with_word, f"{low}-{farther[1]}", farther[2]))
        best = min(ways)
        farther = min(ends)
        behind = len(NEXT_TERM) + best[0]
        lasts.append(best[2])
    return lasts[::-1]


def read_span(text):
    """The span that a text writes, None for another text."""
    ends = [number_in(word) for word in text.split("-")]
    if len(ends) > 2 or None in ends:
        return None
    if len(ends) == 1:
        return (ends[0], ends[0])
    return (ends[0], ends[1]) if ends[0] < ends[1] else None


def read_row(words):
    """The spans that some words write, each one behind the end of the one before it, None for other words."""
    spans = []
    for word in words:
        span = read_span(word)
        if span is None or (spans and span[0] <= spans[-1][1]):
            return None
        spans.append(span)
    return spans


def read_exceptions(term, text):
    """The exceptions that a text writes for a term, None for another text."""
    spans = read_row(text.split(NEXT_EXCEPTION))
    if spans is None or spans[0][0] <= term[0] or spans[-1][1] >= term[1]:
        return None
    return spans


def read_letter(text):
    """Spans of all numbers of the letter that a text writes, None for another text."""
    if text == EMPTY:
        return []
    parts = [part.partition(BUT) for part in text.split(NEXT_TERM)]
    terms = read_row([part[0] for part in parts])
    if terms is None:
        return None
    spans = []
    for term, part in zip(terms, parts):
        exceptions = read_exceptions(term, part[2]) if part[1] else []
        if exceptions is None:
            return None
        spans.extend(crossed([term], outside(exceptions)))
    return spans
