"""Rules for writing: to which things they lead from the seats that can bear a named part at the beginning."""

from lumplooks.books import Book, step_seats, told_seats
from lumplooks.errors import InvalidNumber, InvalidRule
from lumplooks.letters import Letter
from lumplooks.numbers import is_number
from lumplooks.seats import Thing

MOST_LINKS = 20
SEATS = "abcdefghijklmnopqrstuvwx"
NAMED = 7
NOT_NAMED = 3


class Rule:
    """A number of links, or None for any number, and an order. A rule never changes."""

    ORDERS = ("any", "timed", "stopped")

    def __init__(self, links=None, order="stopped"):
        if links is not None and not is_number(links, 0, MOST_LINKS):
            raise InvalidNumber(links)
        if order not in Rule.ORDERS:
            raise InvalidRule(order)
        self._links = links
        self._order = order

    @property
    def links(self):
        """The greatest number of links of a way, None for any number."""
        return self._links

    @property
    def order(self):
        """Which ways count: any, those of later and later steps, or those of these that no look stops."""
        return self._order

    def written(self, book, letter):
        """The names of the things at which a way of the rule ends."""
        begun = beginnings(book, letter)
        if self._order == "any":
            fewest = fewest_links(begun, groups_of(book))
        else:
            fewest = fewest_timed(begun, book, letter, self._order == "stopped")
        things = book.names("thing")
        return [name for name in things if name in fewest and is_within(fewest[name], self._links)]

    def misses(self, case):
        """The names of the things that are to be written to, and to which the rule does not write."""
        written = self.written(case.book, case.letter)
        return [name for name in case.write() if name not in written]

    def needless(self, case):
        """The names of the things to which the rule writes, and that need not be written to."""
        wanted = case.write()
        return [name for name in self.written(case.book, case.letter) if name not in wanted]

    def covers(self, other):
        """Whether this rule writes to all things to which the other one writes, for all books and letters."""
        if not has_links(self, other):
            return False
        if Rule.ORDERS.index(self._order) <= Rule.ORDERS.index(other.order):
            return True
        # A way with one link is in the order of time by itself.
        return self._order == "timed" and other.links in (0, 1)

    def witness(self, other):
        """A book, a letter and the name of a thing to which only the other rule writes; None if there is none."""
        if self.covers(other):
            return None
        if not has_links(self, other):
            many = self._links + 1
            return chain_book(list(range(many))), Letter((NAMED, NAMED)), SEATS[many]
        if self._order == "stopped":
            records = [("given", "a", NAMED), ("look", 0, "a", NOT_NAMED)]
            return Book([Thing("a", 0)], records), Letter((NAMED, NAMED)), "a"
        return chain_book([1, 0]), Letter((NAMED, NAMED)), "c"

    def __eq__(self, other):
        return isinstance(other, Rule) and self._links == other._links and self._order == other._order

    def __repr__(self):
        links = "any number" if self._links is None else str(self._links)
        return f"Rule({links}, {self._order})"


def is_within(many, links):
    """Whether so many links are at most those of a rule."""
    return links is None or many <= links


def has_links(one, other):
    """Whether a rule has at least as many links as another one."""
    if other.links is None:
        return one.links is None
    return is_within(other.links, one.links)


def beginnings(book, letter):
    """The names of the seats that can have a named part at the beginning."""
    told = {}
    for record in book.records():
        for name in told_seats(record):
            numbers = [record[2]] if record[0] == "given" else record[2]
            told[name] = any([number in letter for number in numbers])
    return [name for name in book.names() if told.get(name, True)]


def groups_of(book):
    """The lists of the names of the seats that are linked by one step, each one once."""
    groups = {tuple(step_seats(step)): True for step in book.steps() if step[0] != "look"}
    return list(groups)


def fewest_links(begun, groups):
    """The fewest links with which each seat can be reached in any order of the steps."""
    fewest = {name: 0 for name in begun}
    many = 0
    row = begun
    while row:
        many += 1
        near = []
        for group in groups:
            if any([name in group for name in row]):
                near.extend([name for name in group if name not in fewest])
        row = list({name: True for name in near})
        fewest.update({name: many for name in row})
    return fewest


def fewest_timed(begun, book, letter, is_stopped):
    """The fewest links with which each seat can be reached by later and later steps, such that the way can go on."""
    fewest = {name: 0 for name in begun}
    for step in book.steps():
        if step[0] == "look":
            if is_stopped and step[3] not in letter:
                fewest.pop(step[2], None)
            continue
        group = step_seats(step)
        near = [fewest[name] for name in group if name in fewest]
        if near:
            many = min(near) + 1
            fewest.update({name: min(many, fewest.get(name, many)) for name in group})
    return fewest


def chain_book(hours):
    """A book of things of which the first one surely has a named part, and each one is swapped with the next one."""
    names = SEATS[:len(hours) + 1]
    records = [("given", name, NAMED if name == "a" else NOT_NAMED) for name in names]
    swaps = [("swap", hour, names[at], names[at + 1]) for at, hour in enumerate(hours)]
    return Book([Thing(name, at) for at, name in enumerate(names)], [*records, *swaps])
