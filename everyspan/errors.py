"""The errors that the program raises."""


class SpanError(ValueError):
    """The base of all errors of the program; it keeps the thing that is wrong in value."""

    def __init__(self, value):
        self.value = value


class InvalidDays(SpanError):
    """A low that is greater than the high, or one that is not allowed."""


class InvalidRule(SpanError):
    """A rule with a width less than 1, or with a least that is greater than the most."""


class InvalidLength(SpanError):
    """A length that is too small."""


class InvalidNumber(SpanError):
    """A number that is too small, or that nothing has."""


class InvalidKnown(SpanError):
    """A known sum with another number of items, or with a length less than 1."""


class InvalidDay(SpanError):
    """A day ahead of the first one."""


class NoRows(SpanError):
    """A book without rows."""


class Contradiction(SpanError):
    """A known sum that no row has together with those ahead of it."""


class TooMany(SpanError):
    """More known sums than a planner may have."""


class NothingToUndo(SpanError):
    """No call that could be taken back."""


class Unreadable(SpanError):
    """A text that is the text of nothing."""
