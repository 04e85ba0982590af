"""Papers: certificates that say how many records are false at least, and in how many lists some seats are."""

from lumplooks.numbers import is_list
from lumplooks.prices import weight
from lumplooks.stories import copied


class Paper:
    """The base class of certificates, which never change."""

    KIND = "paper"

    def __init__(self, book, letter):
        self._book = book
        self._letter = letter

    @property
    def book(self):
        """The book that this is about."""
        return self._book

    @property
    def letter(self):
        """The letter that says which parts are named."""
        return self._letter

    def told(self):
        """What the paper says, in words."""
        return self.KIND

    def holds(self):
        """Whether the paper is right."""
        return False

    def __repr__(self):
        return f"Paper({self.KIND})"


class Least(Paper):
    """A best story, with prices which show that no story has fewer false records."""

    KIND = "least"

    def __init__(self, book, letter, story, prices):
        super().__init__(book, letter)
        self._story = story
        self._prices = prices

    @property
    def story(self):
        """The story that is said to be best."""
        return self._story

    @property
    def prices(self):
        """The prices that are said to show it."""
        return self._prices

    def many_false(self):
        """The number of false records of the story."""
        return len(self._story.false_records())

    def told(self):
        """The kind and the number of false records."""
        return f"{self.KIND} {self.many_false()}"

    def holds(self):
        """Whether the story holds, and its number of false records is the bound of the prices."""
        if not are_sound(self._book, self._letter, [self._story], [self._prices]):
            return False
        return self._prices.bound(self._letter) == weight(self._book) * self.many_false()


class Counts(Paper):
    """The least and the greatest number of some seats that are in a list, with a best story and prices for each."""

    KIND = "counts"

    def __init__(self, book, letter, names, low_story, high_story, low_prices, high_prices):
        super().__init__(book, letter)
        self._names = copied(list(names) if is_list(names) else names)
        self._low_story = low_story
        self._high_story = high_story
        self._low_prices = low_prices
        self._high_prices = high_prices

    def names(self):
        """A new list of the names; the value that was passed if it is no list."""
        return copied(self._names)

    @property
    def low_story(self):
        """The story whose list is said to have the fewest of the seats."""
        return self._low_story

    @property
    def high_story(self):
        """The story whose list is said to have the most of the seats."""
        return self._high_story

    @property
    def low_prices(self):
        """The prices that are said to show that no list has fewer."""
        return self._low_prices

    @property
    def high_prices(self):
        """The prices that are said to show that no list has more."""
        return self._high_prices

    def low(self):
        """How many of the seats are in the list of the first story."""
        return many_named(self._low_story, self._names)

    def high(self):
        """How many of the seats are in the list of the second story."""
        return many_named(self._high_story, self._names)

    def told(self):
        """The kind and both numbers."""
        return f"{self.KIND} {self.low()} to {self.high()}"

    def holds(self):
        """Whether both stories hold with equally many false records, and the bounds of the prices are met."""
        stories = [self._low_story, self._high_story]
        prices = [self._low_prices, self._high_prices]
        if not are_names(self._names, self._book) or not are_sound(self._book, self._letter, stories, prices):
            return False
        low_false, high_false = [len(story.false_records()) for story in stories]
        if low_false != high_false:
            return False
        cost = weight(self._book) * low_false
        low_bound = self._low_prices.bound(self._letter, counted=self._names, sign=1)
        high_bound = self._high_prices.bound(self._letter, counted=self._names, sign=-1)
        return low_bound == cost + self.low() and high_bound == cost - self.high()


class Fate(Counts):
    """Whether one seat is in all lists, in some of them or in none."""

    KIND = "fate"

    def __init__(self, book, letter, name, low_story, high_story, low_prices, high_prices):
        super().__init__(book, letter, [name], low_story, high_story, low_prices, high_prices)
        self._name = copied(name)

    @property
    def label(self):
        """The name."""
        return copied(self._name)

    def told(self):
        """The kind and the fate."""
        if self.low() < self.high():
            return f"{self.KIND} perhaps"
        return f"{self.KIND} sure" if self.low() else f"{self.KIND} never"


def are_names(value, book):
    """Whether any value is a list of different names of seats of a book."""
    if not isinstance(value, list) or not all([name in book for name in value]):
        return False
    return len(set(value)) == len(value)


def are_sound(book, letter, stories, prices):
    """Whether some stories hold and are of this book and letter, and some prices are whole and of this book."""
    for story in stories:
        if story.book != book or story.letter != letter or not story.holds():
            return False
    return all([price.book == book and price.is_whole() for price in prices])


def many_named(story, names):
    """How many of the names are in the list of a story."""
    named = story.named()
    return len([name for name in names if name in named])
