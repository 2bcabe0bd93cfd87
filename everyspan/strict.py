"""How strict a further rule can be."""

from everyspan.bounds import highest_least, lowest_most
from everyspan.checks import check_rows
from everyspan.errors import InvalidLength


def strictest_least(book, width):
    """Return the greatest least that a further rule with a width, without a most, can have."""
    check_rows(book)
    check_width(width)
    most, most_width = lowest_most(book.bounds())
    return most * width // most_width


def strictest_most(book, width):
    """Return the least most that a further rule with a width, without a least, can have."""
    check_rows(book)
    check_width(width)
    least, least_width = highest_least(book.bounds())
    return -(-least * width // least_width)


def check_width(width):
    """Raise InvalidLength if a width is less than 1."""
    if width < 1:
        raise InvalidLength(width)
