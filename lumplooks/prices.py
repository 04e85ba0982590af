"""Prices of named parts, which show that no story has fewer false records than their bound allows."""

from lumplooks.books import step_seats, told_seats
from lumplooks.stories import copied_rows, many_rows


class Prices:
    """For each state of a story, a list with the price of a named part in each seat. It never changes."""

    def __init__(self, book, prices):
        self._book = book
        self._rows = copied_rows(prices)

    @property
    def book(self):
        """The book of which these are the prices."""
        return self._book

    def rows(self):
        """The list of the lists of prices; the value that was passed if it is no list."""
        return copied_rows(self._rows)

    def is_whole(self):
        """Whether there is a list of as many integers as seats for each state."""
        if not isinstance(self._rows, list) or len(self._rows) != len(self._book.steps()) + 1:
            return False
        return all([is_row(row, len(self._book)) for row in self._rows])

    def bound(self, letter, *, counted=(), sign=0):
        """What K times the false records of a story and the sign for each counted seat in its list is at least."""
        book = self._book
        names = book.names()
        prices = [dict(zip(names, row)) for row in self._rows]
        parts = [beginning_bound(book, letter, prices[0])]
        for step, before, after in zip(book.steps(), prices, prices[1:]):
            parts.append(step_bound(step, letter, before, after, weight(book)))
            inside = step_seats(step)
            parts.extend([min(0, before[name] - after[name]) for name in names if name not in inside])
        last = prices[-1]
        parts.extend([min(0, last[name] + (sign if name in counted else 0)) for name in names])
        return sum(parts)

    def __repr__(self):
        return f"Prices({many_rows(self._rows)} states)"


def is_row(value, many):
    """Whether any value is a list of so many integers."""
    if not isinstance(value, list) or len(value) != many:
        return False
    return all([isinstance(price, int) and not isinstance(price, bool) for price in value])


def weight(book):
    """What a false record counts: more than all seats together."""
    return len(book) + 1


def costs(number, letter, wrong):
    """What a record of a part with this number costs, if the seat has no named part and if it has one."""
    return (wrong, 0) if number in letter else (0, wrong)


def beginning_bound(book, letter, prices):
    """The least costs of the first state, less the prices of its named parts."""
    parts = []
    told = []
    for record in book.records():
        told.extend(told_seats(record))
        if record[0] == "given":
            without, named = costs(record[2], letter, weight(book))
            parts.append(min(without, named - prices[record[1]]))
        elif record[0] == "mixed":
            many = len([number for number in record[2] if number in letter])
            greatest = sorted([prices[name] for name in record[1]], reverse=True)
            parts.append(-sum(greatest[:many]))
    parts.extend([min(0, -prices[name]) for name in book.names() if name not in told])
    return sum(parts)


def step_bound(step, letter, before, after, wrong):
    """The least costs of a step, with the prices of the named parts of its seats before it less those after it."""
    if step[0] == "meeting":
        return meeting_bound(step[4], before, after)
    if step[0] == "swap":
        return swap_bound(step[2], step[3], before, after, wrong)
    without, named = costs(step[3], letter, wrong)
    return min(without, named + before[step[2]] - after[step[2]])


def meeting_bound(names, before, after):
    """The least difference of the prices before and after a meeting, over all numbers of named parts in it."""
    least = sorted([before[name] for name in names])
    greatest = sorted([after[name] for name in names], reverse=True)
    sums = [0]
    for low, high in zip(least, greatest):
        sums.append(sums[-1] + low - high)
    return min(sums)


def swap_bound(one, other, before, after, wrong):
    """The least costs of a swap, over all ways in which its seats have named parts and it is done or not."""
    sums = []
    for has in [(0, 0), (0, 1), (1, 0), (1, 1)]:
        done = has[::-1]
        for then in [has, done]:
            cost = has[0] * before[one] + has[1] * before[other] - then[0] * after[one] - then[1] * after[other]
            sums.append(cost if then == done else cost + wrong)
    return min(sums)
