"""The errors of the package. Each one has the name of its class as its code, for answers in words."""


class LumpError(ValueError):
    """The base class of the errors for values that are not taken."""


class InvalidNumber(LumpError):
    """A value is no number, or none of those that are asked for."""

    def __init__(self, given):
        self.given = given
        self.code = "InvalidNumber"


class InvalidName(LumpError):
    """A value is no name."""

    def __init__(self, given):
        self.given = given
        self.code = "InvalidName"


class InvalidSpan(LumpError):
    """The value with this index is no span."""

    def __init__(self, at):
        self.at = at
        self.code = "InvalidSpan"


class InvalidText(LumpError):
    """A value is no text of a letter."""

    def __init__(self, given):
        self.given = given
        self.code = "InvalidText"


class InvalidSeat(LumpError):
    """The item with this index is no thing and no peg."""

    def __init__(self, at):
        self.at = at
        self.code = "InvalidSeat"


class InvalidRecord(LumpError):
    """The item with this index is no record, or no answer."""

    def __init__(self, at):
        self.at = at
        self.code = "InvalidRecord"


class Clash(LumpError):
    """The item with this index does not go together with the items before it."""

    def __init__(self, at):
        self.at = at
        self.code = "Clash"


class DuplicateName(LumpError):
    """Two seats have this name."""

    def __init__(self, name):
        self.name = name
        self.code = "DuplicateName"


class DuplicateNumber(LumpError):
    """Two things have this number."""

    def __init__(self, given):
        self.given = given
        self.code = "DuplicateNumber"


class TooMany(LumpError):
    """There are more items than this many."""

    def __init__(self, most):
        self.most = most
        self.code = "TooMany"


class Full(LumpError):
    """There are as many records as the limit or more."""

    def __init__(self, limit):
        self.limit = limit
        self.code = "Full"


class NotAThing(LumpError):
    """The seat with this name is a peg, at which nobody can look."""

    def __init__(self, name):
        self.name = name
        self.code = "NotAThing"


class Contradiction(LumpError):
    """The answer with this index fits no list together with the answers before it."""

    def __init__(self, at):
        self.at = at
        self.code = "Contradiction"


class InvalidRule(LumpError):
    """A value is no order of a rule."""

    def __init__(self, given):
        self.given = given
        self.code = "InvalidRule"


class InvalidCommand(LumpError):
    """The value with this index is no command."""

    def __init__(self, at):
        self.at = at
        self.code = "InvalidCommand"


class InvalidLimit(LumpError):
    """A value is no limit that a recall can have."""

    def __init__(self, given):
        self.given = given
        self.code = "InvalidLimit"


class InvalidPage(LumpError):
    """The line with this index is wrong on its page."""

    def __init__(self, line):
        self.line = line
        self.code = "InvalidPage"


class Missing(LookupError):
    """The base class of the errors for what is asked for and not there."""


class UnknownName(Missing):
    """A value is no name of a seat."""

    def __init__(self, name):
        self.name = name
        self.code = "UnknownName"


class NothingLeft(IndexError):
    """There is nothing to take back or to make again."""

    def __init__(self):
        self.code = "NothingLeft"
