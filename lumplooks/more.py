"""What changes for the owners with a record more or less, or with another letter."""

from lumplooks.cases import Case
from lumplooks.errors import TooMany
from lumplooks.lumps import lists


def comes(case, record):
    """The names of the things that are written to only with a further record."""
    further = Case(case.book.with_record(record), case.letter)
    return only(further, case)


def goes(case, record):
    """The names of the things that are written to only without a further record."""
    further = Case(case.book.with_record(record), case.letter)
    return only(case, further)


def only(one, other):
    """The names of the things that are written to in one case, and not in the other one."""
    written = other.write()
    return [name for name in one.write() if name not in written]


def spare(case, *, limit=1000):
    """The indexes of the records of which each one may be left out by itself such that the lists are the same."""
    wanted = lists(case, limit=limit)
    book = case.book
    cases = [Case(book.without(at), case.letter) for at in range(len(book.records()))]
    # Most records that are not spare change a fate, which is found sooner than the lists.
    return [at for at, other in enumerate(cases) if other.fates() == case.fates() and has_lists(other, wanted)]


def has_lists(case, wanted):
    """Whether these are all lists of a case."""
    try:
        return lists(case, limit=len(wanted)) == wanted
    except TooMany:
        return False


def turned(book, letter, other):
    """The names of the things that are written to for the other letter alone, and for the first one alone."""
    first = Case(book, letter)
    second = Case(book, other)
    return only(second, first), only(first, second)
