"""The lists of so many days that stand, counted and numbered."""

from everyspan.checks import check_length, check_rows
from everyspan.errors import InvalidNumber


def count_stretches(book, length):
    """Return how many lists of so many days stand."""
    check_rows(book)
    check_length(length)
    return book.spots().many(length)


def nth_stretch(book, length, index):
    """Return the list with an index among those of so many days that stand, as Python compares lists."""
    many = count_stretches(book, length)
    if index < 0 or index >= many:
        raise InvalidNumber(index)
    return book.spots().nth(length, index)


def stretch_index(book, days):
    """Return the index of a list of days among those of its length that stand, None if it does not stand."""
    check_rows(book)
    return book.spots().place(days)
