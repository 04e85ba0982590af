"""Stories: which seats bear a named part, at the beginning and after each step, and which records are false then."""

from lumplooks.books import step_seats
from lumplooks.numbers import is_list


class Story:
    """A list of states of a book, which may be no story at all. It never changes."""

    def __init__(self, book, letter, states):
        self._book = book
        self._letter = letter
        self._states = copied_rows(states)

    @property
    def book(self):
        """The book of which this is a story."""
        return self._book

    @property
    def letter(self):
        """The letter that says which parts are named."""
        return self._letter

    def states(self):
        """The list of the states, each a list of names; the value that was passed if it is no list."""
        return copied_rows(self._states)

    def holds(self):
        """Whether this is a story."""
        names = self._book.names()
        if not isinstance(self._states, list) or len(self._states) != len(self._book.steps()) + 1:
            return False
        if not all([is_state(state, names) for state in self._states]):
            return False
        passages = self._passages()
        return self._begins_right() and all([is_passage(step, before, after) for step, before, after in passages])

    def false_records(self):
        """The ascending list of the indexes of the false records."""
        found = []
        for at, record in enumerate(self._book.records()):
            if record[0] == "given" and self._is_false(record[1], record[2], self._states[0]):
                found.append(at)
        for step, before, after in self._passages():
            if step[0] == "look" and self._is_false(step[2], step[3], before):
                found.append(step[1])
            elif step[0] == "swap" and not is_done(step, before, after):
                found.append(step[1])
        return sorted(found)

    def named(self):
        """The names of the seats that bear a named part after the last step."""
        return list(self._states[-1])

    def __eq__(self, other):
        return (
            isinstance(other, Story) and self._book == other._book and self._letter == other._letter
            and self._states == other._states
        )

    def __repr__(self):
        return f"Story({many_rows(self._states)} states)"

    def _passages(self):
        """The list of the steps, each one with the states before and after it."""
        return list(zip(self._book.steps(), self._states, self._states[1:]))

    def _begins_right(self):
        """Whether the first state has as many seats of each record of mixed parts as the letter names parts."""
        mixed = [record for record in self._book.records() if record[0] == "mixed"]
        return all([
            len(chosen(self._states[0], record[1])) == len([number for number in record[2] if number in self._letter])
            for record in mixed
        ])

    def _is_false(self, name, number, state):
        """Whether a seat in this state cannot have the part with this number."""
        return (number in self._letter) != (name in state)


def copied(value):
    """A copy of any value, with new lists at each depth."""
    if isinstance(value, list):
        return [copied(item) for item in value]
    if isinstance(value, tuple):
        return tuple([copied(item) for item in value])
    return value


def copied_rows(value):
    """A copy of any value, in which a tuple counts as a list, and so does a tuple in it, but none that is deeper."""
    if not is_list(value):
        return value
    return [[copied(item) for item in row] if is_list(row) else row for row in value]


def many_rows(value):
    """How many items a list has, 0 for any value that is no list."""
    return len(value) if is_list(value) else 0


def is_state(value, names):
    """Whether any value is a list of different ones of the names, in their order."""
    return isinstance(value, list) and value == [name for name in names if name in value]


def chosen(state, names):
    """The seats of a state that have one of the names."""
    return [name for name in state if name in names]


def is_kept(step, before, after):
    """Whether the seats that do not stand in a step are in both states or in none."""
    names = step_seats(step)
    return [name for name in before if name not in names] == [name for name in after if name not in names]


def is_done(step, before, after):
    """Whether the state after a swap is that before it with both seats exchanged."""
    one, other = step_seats(step)
    exchanged = (one in before) == (other in after) and (other in before) == (one in after)
    return exchanged and is_kept(step, before, after)


def is_passage(step, before, after):
    """Whether a step can lead from one state to another one."""
    if step[0] == "meeting":
        names = step_seats(step)
        return len(chosen(before, names)) == len(chosen(after, names)) and is_kept(step, before, after)
    return before == after or (step[0] == "swap" and is_done(step, before, after))
