"""The rows with all known sums that have as much, or as little, from a day on as early as can be."""

from everyspan.bounds import lowest_most
from everyspan.checks import check_day, check_known, check_length, check_rows
from everyspan.errors import InvalidDays, InvalidNumber
from everyspan.ties import tied


def early_day(book, known, begin, day):
    """Return the value of a day in the row whose days from begin on make the greatest list."""
    ties = early_ties(book, known)
    check_day(begin, day)
    return ties.early_row(begin).day(day)


def late_day(book, known, begin, day):
    """Return the value of a day in the row whose days from begin on make the least list."""
    ties = late_ties(book, known)
    check_day(begin, day)
    return -ties.early_row(begin).day(day)


def early_days(book, known, begin, length):
    """Return the first days, so many, of the row whose days from begin on make the greatest list."""
    ties = early_ties(book, known)
    check_length(length)
    return ties.early_row(begin).days(length)


def late_days(book, known, begin, length):
    """Return the first days, so many, of the row whose days from begin on make the least list."""
    ties = late_ties(book, known)
    check_length(length)
    return [-day for day in ties.early_row(begin).days(length)]


def early_place(book, known, begin, total):
    """Return the first day at whose end the early row has total or more, None if it never has."""
    check_rows(book)
    if book.low < 0:
        raise InvalidDays((book.low, book.high))
    ties = early_ties(book, known)
    if total < 1:
        raise InvalidNumber(total)
    most, width = lowest_most(book.bounds())
    # No day is negative: either all of them are 0, or the greatest sums grow for ever.
    if most == 0:
        return None
    return ties.early_row(begin).first_place(total, most, width) - 1


def early_ties(book, known):
    """Return the ties of known sums of a book, which are checked."""
    check_rows(book)
    check_known(known)
    return tied(book.sums(), known)


def late_ties(book, known):
    """Return the ties of known sums of the turned book: its early rows are the late ones with the other sign."""
    check_rows(book)
    check_known(known)
    return tied(book.sums().turned(), [(begin, length, -total) for begin, length, total in known])
