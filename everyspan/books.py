"""Books: a low and a high for the days, and rules for any so many days."""

from everyspan.bounds import first_conflict, is_rule
from everyspan.errors import InvalidDays, InvalidNumber, InvalidRule
from everyspan.spots import Spots
from everyspan.sums import sums_of


class Book:
    """A low, a high, and rules (width, least, most); a book never changes."""

    def __init__(self, low, high, rules):
        if low > high:
            raise InvalidDays((low, high))
        for number, rule in enumerate(rules):
            if not is_rule(rule):
                raise InvalidRule(number)
        self._low = low
        self._high = high
        self._rules = list(rules)
        self._conflict = first_conflict(self.bounds())
        self._sums = None
        self._spots = None

    @property
    def low(self):
        """The least value of a day."""
        return self._low

    @property
    def high(self):
        """The greatest value of a day."""
        return self._high

    @property
    def rules(self):
        """A new list of the rules, as they were passed."""
        return list(self._rules)

    def __eq__(self, other):
        if not isinstance(other, Book):
            return False
        return self._low == other._low and self._high == other._high and self._rules == other._rules

    def bounds(self):
        """Return the list of all bounds: that of the days, then the rules."""
        return [(1, self._low, self._high)] + self._rules

    def turned(self):
        """Return the book of the rows with all values of the other sign."""
        return Book(-self._high, -self._low, [(width, -most, -least) for width, least, most in self._rules])

    def scaled(self, factor, shift):
        """Return the book of the rows with all values factor times as great, and then shift more."""
        if factor < 1:
            raise InvalidNumber(factor)
        rules = []
        for width, least, most in self._rules:
            rules.append((width, factor * least + shift * width, factor * most + shift * width))
        return Book(factor * self._low + shift, factor * self._high + shift, rules)

    def has_rows(self):
        """Return True if there are rows, otherwise False."""
        return self._conflict is None

    def conflict(self):
        """Return the first conflict, None if there is none."""
        return self._conflict

    def sums(self):
        """Return the sums of the book, which must have rows; they are found when they are first asked for."""
        if self._sums is None:
            self._sums = sums_of(self.bounds())
        return self._sums

    def spots(self):
        """Return the spots of the book's lists, which must have rows; they are found when they are first asked for."""
        if self._spots is None:
            self._spots = Spots(self.sums())
        return self._spots
