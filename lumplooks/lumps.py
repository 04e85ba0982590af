"""Lumps: the classes of exchangeable seats, the looks that they need, and the lists of a case."""

from lumplooks.cases import story_of
from lumplooks.errors import Contradiction, InvalidRecord, NotAThing, TooMany, UnknownName
from lumplooks.webs import NOTHING


class Lump:
    """Some seats of which each two are exchangeable. It never changes."""

    def __init__(self, names, pegs, is_loose):
        self._names = list(names)
        self._pegs = list(pegs)
        self._is_loose = is_loose

    def names(self):
        """The names of the things."""
        return list(self._names)

    def pegs(self):
        """The names of the pegs."""
        return list(self._pegs)

    @property
    def is_open(self):
        """Whether there is a peg, or the seats are loose."""
        return self._is_loose or len(self._pegs) > 0

    def looks(self):
        """How many looks settle the lump."""
        return len(self._names) if self.is_open else len(self._names) - 1

    def __len__(self):
        return len([*self._names, *self._pegs])

    def __repr__(self):
        if self.is_open:
            return f"Lump({self._words()}: open)"
        return f"Lump({self._words()}: closed)"

    def _words(self):
        """The names of all seats, first of the things, with spaces between."""
        return " ".join([*self._names, *self._pegs])


def lumps(case):
    """The list of the lumps, in the order of their first seats."""
    found = []
    for names, is_loose in lump_rows(case.fit()):
        things = [name for name in names if case.book.seat(name).IS_LOOKED_AT]
        pegs = [name for name in names if name not in things]
        found.append(Lump(things, pegs, is_loose))
    return found


def lump_rows(fit):
    """The lumps of the unsettled seats behind some answers, as pairs (names, whether they are loose)."""
    partners = fit.partners()
    rows = []
    done = {}
    for name in fit.unsettled:
        if name not in done:
            near = ways_from(partners, name)
            done.update(near)
            rows.append(([other for other in fit.unsettled if other in near], NOTHING in near))
    return rows


def ways_from(partners, start):
    """The names that are joined with one by partners, nearest first, each one with that by which it is reached."""
    came = {start: None}
    row = [start]
    while row:
        nexts = []
        for name in row:
            for other in partners[name]:
                if other not in came:
                    came[other] = name
                    nexts.append(other)
        row = nexts
    return came


def looks(case):
    """The number of looks after which everything is settled, and not after fewer."""
    return sum([lump.looks() for lump in lumps(case)])


def plan(case):
    """The names of things at which so many looks settle everything."""
    found = []
    for lump in lumps(case):
        found.extend(lump.names() if lump.is_open else lump.names()[:-1])
    return [name for name in case.book.names() if name in found]


def lists(case, *, limit=1000):
    """All lists, ascending by whether each seat is in them."""
    found = []
    spread(case.fit(), found, limit)
    if len(found) > limit:
        raise TooMany(limit)
    return [[name for name in case.book.names() if fit.has(name)] for fit in found]


def spread(fit, found, limit):
    """Find a best flow for each list that goes with the closed seats of a flow, until there are more than the limit."""
    if not fit.unsettled:
        found.append(fit)
        return
    name = fit.unsettled[0]
    for is_named in (False, True):
        if len(found) <= limit:
            spread(fit.answered(name, is_named), found, limit)


def exchange(case, one, other):
    """A pair of best stories whose lists differ by having one seat or else the other, None if there is none."""
    for name in (one, other):
        if name not in case.book:
            raise UnknownName(name)
    return pair_between(case, one, other)


def alone(case, name):
    """A pair of best stories whose lists differ by a seat alone, None if there is none."""
    if name not in case.book:
        raise UnknownName(name)
    return pair_between(case, name, NOTHING)


def pair_between(case, one, other):
    """A pair of best stories of which the first one alone has one seat, and the second one the other if it is one."""
    fit = case.fit()
    partners = fit.partners()
    if one == other or one not in partners:
        return None
    came = ways_from(partners, one)
    if other not in came:
        return None
    way = [other]
    while way[-1] != one:
        way.append(came[way[-1]])
    # On a shortest way each name can be exchanged with the next one for all pairs at once. The two ways to
    # take all inner names in pairs, with the ends or without them, differ by the ends alone.
    if len(way) % 2:
        pair = [changed(fit, way[1:]), changed(fit, way[:-1])]
    else:
        pair = [changed(fit, way), changed(fit, way[1:-1])]
    first, second = pair if pair[0].has(one) else pair[::-1]
    return story_of(case, first), story_of(case, second)


def changed(fit, names):
    """A best flow whose list differs from that of another one by some seats."""
    wanted = [(name, fit.has(name) != (name in names)) for name in fit.unsettled]
    for name, is_named in wanted:
        fit = fit.answered(name, is_named)
    return fit


def fates_after(case, *answers):
    """The dict from the name of each seat to its fate over all lists that fit some answers."""
    for at, answer in enumerate(answers):
        if not is_answer(answer):
            raise InvalidRecord(at)
    for name, _ in answers:
        if name not in case.book:
            raise UnknownName(name)
    for name, _ in answers:
        if not case.book.seat(name).IS_LOOKED_AT:
            raise NotAThing(name)
    fit = case.fit()
    for at, (name, is_named) in enumerate(answers):
        fit = fit.answered(name, is_named)
        if fit is None:
            raise Contradiction(at)
    return fit.fates()


def is_answer(value):
    """Whether any value is a pair of a string and a boolean."""
    if not isinstance(value, tuple) or len(value) != 2:
        return False
    return isinstance(value[0], str) and isinstance(value[1], bool)
