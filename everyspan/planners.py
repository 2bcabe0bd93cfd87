"""Planners: known sums that are collected, call by call, and what they make sure."""

from everyspan.books import Book
from everyspan.checks import check_length, check_rows
from everyspan.errors import Contradiction, InvalidLength, InvalidNumber, NothingToUndo, TooMany
from everyspan.ties import Ties, tied


class Planner:
    """A book and known sums that some row of it has."""

    def __init__(self, book):
        check_rows(book)
        self._book = book
        self._known = []
        self._ties = Ties(book.sums())
        self._most = None
        self._story = []
        # The book, the known sums and their ties ahead of each call of the story; none of these is changed later.
        self._past = []

    @property
    def book(self):
        """The present book."""
        return self._book

    @property
    def known(self):
        """A new list of the known sums."""
        return list(self._known)

    def __len__(self):
        return len(self._known)

    def __eq__(self, other):
        if not isinstance(other, Planner):
            return False
        if self._most != other._most or self._book != other._book:
            return False
        return self._known == other._known and self._story == other._story

    def know(self, begin, length, total):
        """Add a known sum."""
        check_known_length(length)
        ties = self._ties.copied()
        if not ties.add_tie(begin, begin + length, total):
            raise Contradiction(len(self._known))
        known = self._known + [(begin, length, total)]
        self._go_on(("know", begin, length, total), self._book, known, ties)

    def forget(self, number):
        """Take a known sum away."""
        if number < 0 or number >= len(self._known):
            raise InvalidNumber(number)
        known = self._known[:number] + self._known[number + 1:]
        self._go_on(("forget", number), self._book, known, tied(self._book.sums(), known))

    def bind(self, rule):
        """Go on with the book that has a rule more, behind the others."""
        # The rules of the present book are rules: only the new one, with the last number, can be refused.
        book = Book(self._book.low, self._book.high, self._book.rules + [rule])
        check_rows(book)
        self._go_on(("bind", rule), book, self._known, tied(book.sums(), self._known))

    def undo(self):
        """Take back the last call that was not refused and has not been taken back yet."""
        if not self._past:
            raise NothingToUndo(0)
        self._book, self._known, self._ties = self._past.pop()
        self._story.pop()

    def sure(self, begin, length):
        """Return the least and the greatest sum of a stretch in the rows that have all known sums."""
        check_length(length)
        return self._ties.sure(begin, begin + length)

    def story(self):
        """Return a new list of the calls that are not taken back."""
        return list(self._story)

    def _go_on(self, call, book, known, ties):
        """Keep what a call leads to, behind all that may refuse it."""
        self._past.append((self._book, self._known, self._ties))
        self._story.append(call)
        self._book, self._known, self._ties = book, known, ties


class ShortPlanner(Planner):
    """A planner that has at most so many known sums."""

    def __init__(self, book, most):
        super().__init__(book)
        if most < 0:
            raise InvalidNumber(most)
        self._most = most

    def know(self, begin, length, total):
        """Add a known sum, if there is room for it."""
        check_known_length(length)
        many = len(self._known) + 1
        if many > self._most:
            raise TooMany(many)
        super().know(begin, length, total)


def check_known_length(length):
    """Raise InvalidLength if the length of a known sum is less than 1."""
    if length < 1:
        raise InvalidLength(length)
