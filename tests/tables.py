"""The least numbers of false records for each state, step by step: for books with too many stories to make each one."""

import random
from functools import lru_cache
from itertools import combinations

from lumplooks.cases import Case
from tests.samples import LETTER, LOOKS, STAYS, beginnings, exchanged, nexts, random_book


def begin_cost(book, letter, state):
    """How many records of the beginning are false in this state."""
    return sum(
        (record[1] in state) is not (record[2] in letter) for record in book.records() if record[0] == "given"
    )


def ways(step, letter, state):
    """The pairs (next state, whether the record of the step is false)."""
    if step[0] == "look":
        return [(state, (step[2] in state) is not (step[3] in letter))]
    return [
        (after, step[0] == "swap" and after != exchanged(state, step[2], step[3])) for after in nexts(step, state)
    ]


def put(table, state, cost):
    table[state] = min(cost, table.get(state, cost))


class Tables:
    """What [9], [10], [13] and [14] say of a book and a letter, found from the least costs of all states."""

    def __init__(self, book, letter):
        self.book, self.letter = book, letter
        forth = [{state: begin_cost(book, letter, state) for state in beginnings(book, letter)}]
        passages = []
        for step in book.steps():
            table, passage = {}, []
            for state, cost in forth[-1].items():
                for after, is_false in ways(step, letter, state):
                    put(table, after, cost + is_false)
                    passage.append((state, after, is_false))
            forth.append(table)
            passages.append(passage)
        self.last = forth[-1]
        self.least = min(self.last.values())
        self.lists = {state for state, cost in self.last.items() if cost == self.least}
        back = {state: 0 for state in self.last}
        # For each record whether it is false, in each best story.
        self.falses = {at: set() for at in range(len(book.records()))}
        for step, table, passage in reversed(list(zip(book.steps(), forth, passages))):
            earlier = {}
            for state, after, is_false in passage:
                put(earlier, state, back[after] + is_false)
                if step[0] != "meeting" and table[state] + is_false + back[after] == self.least:
                    self.falses[step[1]].add(is_false)
            back = earlier
        for at, record in enumerate(book.records()):
            if record[0] == "given":
                best = [state for state in back if forth[0][state] + back[state] == self.least]
                self.falses[at] |= {(record[1] in state) is not (record[2] in letter) for state in best}

    def ordered_lists(self):
        names = self.book.names()
        rows = sorted(tuple(name in state for name in names) for state in self.lists)
        return [[name for name, is_named in zip(names, row) if is_named] for row in rows]

    def fates(self, states=None):
        states = self.lists if states is None else states
        return {name: fate_in(name, states) for name in self.book.names()}

    def record_fate(self, at):
        falses = self.falses[at]
        return "sometimes" if len(falses) == 2 else "always" if True in falses else "never"

    def fewest(self, name, is_named):
        return min((cost for state, cost in self.last.items() if (name in state) is is_named), default=None)

    def loose(self):
        return {name for name in self.book.names() if any(state ^ {name} in self.lists for state in self.lists)}

    def exchangeable(self):
        """The pairs of seats of which one list has the first, and another one the second instead."""
        return {
            (one, other) for one in self.book.names() for other in self.book.names() if one != other and any(
                one in state and other not in state and state - {one} | {other} in self.lists for state in self.lists
            )
        }

    def lumps(self):
        """The classes of [13], as pairs (names, whether they are open)."""
        fates, loose, pairs = self.fates(), self.loose(), self.exchangeable()
        classes = []
        for name in self.book.names():
            if fates[name] != "perhaps":
                continue
            mine = [some for some in classes if (name, some[0]) in pairs or {name, some[0]} <= loose]
            if mine:
                mine[0].append(name)
            else:
                classes.append([name])
        things = self.book.names("thing")
        return [(some, some[0] in loose or any(name not in things for name in some)) for some in classes]

    def is_settled(self, states):
        return all(fate_in(name, states) != "perhaps" for name in self.book.names("thing"))

    def looks(self):
        """The least number of looks that is enough against all answers, by trying all ways to ask."""
        @lru_cache(None)
        def needed(states):
            if self.is_settled(states):
                return 0
            asked = [name for name in self.book.names("thing") if fate_in(name, states) == "perhaps"]
            return min(1 + max(needed(fitting(states, name, word)) for word in [True, False]) for name in asked)
        return needed(frozenset(self.lists))

    def are_enough(self, names):
        """Whether everything is settled behind looks at these things, whatever the answers are."""
        groups = {}
        for state in self.lists:
            groups.setdefault(tuple(name in state for name in names), []).append(state)
        return all(self.is_settled(states) for states in groups.values())

    def counted(self, names):
        return {len(state & set(names)) for state in self.lists}


def fate_in(name, states):
    many = sum(name in state for state in states)
    return "perhaps" if 0 < many < len(states) else "sure" if many else "never"


def fitting(states, name, word):
    return frozenset(state for state in states if (name in state) is word)


def is_best(case, story):
    """Whether a story is a best one of a case."""
    is_of = story.book == case.book and story.letter == case.letter
    return is_of and story.holds() and len(story.false_records()) == case.least


def some_names(names, most):
    """All lists of up to so many names."""
    return [list(some) for many in range(most + 1) for some in combinations(names, many)]


def random_cases(seed, many, most_seats, most_records):
    """Pairs of a case and its tables, for some random books."""
    chance = random.Random(seed)
    books = [random_book(chance, most_seats, most_records, [STAYS, LOOKS][at % 2]) for at in range(many)]
    return [(Case(book, LETTER), Tables(book, LETTER)) for book in books]
