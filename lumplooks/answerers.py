"""Answerers: they answer looks such that as long as possible not everything is settled."""

from lumplooks.cases import story_of
from lumplooks.errors import NotAThing, NothingLeft
from lumplooks.lumps import lump_rows


class Answerer:
    """Answers the looks at the things of a case."""

    def __init__(self, case):
        self._case = case
        self._asked = []
        # A best flow that fits the answers, for each number of them.
        self._fits = [case.fit()]

    def answer(self, name):
        """Whether a thing bears a named part."""
        if not self._case.book.seat(name).IS_LOOKED_AT:
            raise NotAThing(name)
        for told, is_named in self._asked:
            if told == name:
                return is_named
        fit = best_answer(self._fits[-1], name)
        self._fits.append(fit)
        self._asked.append((name, fit.has(name)))
        return fit.has(name)

    def __call__(self, name):
        return self.answer(name)

    def asked(self):
        """The list of the pairs (name, answer), in the order of the first asking."""
        return list(self._asked)

    def is_settled(self):
        """Whether each thing is in all lists that fit the answers, or in none."""
        return self._open_thing() is None

    def pair(self):
        """Two best stories that fit all answers and whose lists differ by a thing, None if everything is settled."""
        name = self._open_thing()
        if name is None:
            return None
        fit = self._fits[-1]
        turned = fit.answered(name, not fit.has(name))
        return story_of(self._case, fit), story_of(self._case, turned)

    def take_back(self):
        """Forget the answer for the thing that was asked for last."""
        if not self._asked:
            raise NothingLeft()
        self._asked.pop()
        self._fits.pop()

    def __len__(self):
        return len(self._asked)

    def __repr__(self):
        return f"Answerer({len(self._asked)} asked)"

    def _open_thing(self):
        """The first thing that is not settled, None if all are."""
        for name in self._fits[-1].unsettled:
            if self._case.book.seat(name).IS_LOOKED_AT:
                return name
        return None


def best_answer(fit, name):
    """A best flow with an answer for a seat that keeps the other seats of its lump in one lump."""
    ways = [fit.answered(name, is_named) for is_named in (False, True)]
    ways = [way for way in ways if way is not None]
    if len(ways) == 1:
        return ways[0]
    wanted = [
        ([other for other in names if other != name], is_loose) for names, is_loose in lump_rows(fit) if name in names
    ]
    for way in ways:
        if wanted[0] in lump_rows(way):
            return way
    # Nothing that can be kept is left in the lump, but at most one other seat that is not loose.
    return ways[0]
