"""Cases: a book and a letter, with what all stories with the fewest false records have in common."""

from lumplooks.errors import InvalidNumber, UnknownName
from lumplooks.flows import best_flow
from lumplooks.letters import letter_for
from lumplooks.nets import Net, prices_of, states_of
from lumplooks.numbers import is_number
from lumplooks.papers import Counts, Fate, Least
from lumplooks.prices import Prices, weight
from lumplooks.stories import Story
from lumplooks.webs import Fit, Web


class Case:
    """A book and a letter. A case never changes."""

    def __init__(self, book, letter):
        self._book = book
        self._letter = letter
        self._flow = best_flow(Net(book, letter))
        self._least = self._flow.cost() // weight(book)
        self._fit = Fit(Web(self._flow), self._flow.left, {})

    @property
    def book(self):
        """The book."""
        return self._book

    @property
    def letter(self):
        """The letter that says which parts are named."""
        return self._letter

    @property
    def least(self):
        """The least number of false records of any story."""
        return self._least

    def best(self):
        """A best story, with prices which show that it is one."""
        flow = self._flow
        return Least(self._book, self._letter, story_of(self, flow), prices_with(self, flow))

    def counts(self, *names):
        """How many of some seats are in a list at least and at most, with stories and prices which show it."""
        for name in names:
            self._check(name)
        once = list({name: True for name in names})
        papers = self._bent(once)
        return Counts(self._book, self._letter, once, *papers)

    def fate(self, name):
        """Whether a seat is in all lists, in some or in none, with stories and prices which show it."""
        self._check(name)
        papers = self._bent([name])
        return Fate(self._book, self._letter, name, *papers)

    def fates(self):
        """The dict from the name of each seat to its fate."""
        return self._fit.fates()

    def fewest(self, name, *, is_named=True):
        """The least number of false records of a story with a seat in its list, or not in it; None without a story."""
        self._check(name)
        # More than all records together cost if they are false.
        much = weight(self._book) * (len(self._book.records()) + 1)
        flow = self._flow.bent({name: -much if is_named else much})
        if flow.has(name) != is_named:
            return None
        return flow.cost() // weight(self._book)

    def record_fate(self, index):
        """Whether a record is false always, sometimes or never in best stories."""
        if not is_number(index, 0, len(self._book.records()) - 1):
            raise InvalidNumber(index)
        flow = self._flow
        arcs = flow.net.tellers.get(index, [])
        if any([self._fit.web.can_change(flow.left, half) for half in arcs]):
            return "sometimes"
        return "always" if any([flow.is_wrong(half) for half in arcs]) else "never"

    def write(self):
        """The names of the things whose fate is not never."""
        fates = self.fates()
        return [name for name in self._book.names("thing") if fates[name] != "never"]

    def letter_to_owners(self):
        """The shortest text of a letter with the numbers of these things and without those of all other things."""
        written = self.write()
        things = [seat for seat in self._book.seats() if seat.IS_LOOKED_AT]
        wanted = [thing.number for thing in things if thing.label in written]
        return letter_for(wanted, [thing.number for thing in things if thing.label not in written])

    def fit(self):
        """A best flow, from which all others can be had."""
        return self._fit

    def __repr__(self):
        return f"Case({len(self._book)} seats, least {self._least})"

    def _check(self, name):
        if name not in self._book:
            raise UnknownName(name)

    def _bent(self, names):
        """Two stories whose lists have the fewest and the most of some seats, and the prices that show it."""
        low = self._flow.bent({name: 1 for name in names})
        high = self._flow.bent({name: -1 for name in names})
        return [story_of(self, low), story_of(self, high), prices_with(self, low), prices_with(self, high)]


def story_of(case, flow):
    """The story of a flow of a case."""
    return Story(case.book, case.letter, states_of(flow.net, flow.left))


def prices_with(case, flow):
    """The prices that show that a flow of a case has the least costs."""
    return Prices(case.book, prices_of(flow.net, flow.heights))
