"""The sums that so many days can have in the rows of a book."""

from math import gcd

from everyspan.bounds import highest_least, lowest_most
from everyspan.checks import check_length, check_rows


def greatest_sum(book, length):
    """Return the greatest sum that so many days, one after another, can have in a row of a book."""
    check_rows(book)
    check_length(length)
    return book.sums().greatest(length)


def least_sum(book, length):
    """Return the least sum that so many days, one after another, can have in a row of a book."""
    check_rows(book)
    check_length(length)
    return book.sums().least(length)


def shares(book):
    """Return the tuple of the greatest least divided by its width and the least most divided by its width."""
    check_rows(book)
    least, least_width = highest_least(book.bounds())
    most, most_width = lowest_most(book.bounds())
    return lowest_terms(least, least_width), lowest_terms(most, most_width)


def lowest_terms(above, below):
    """Return the fraction above / below in lowest terms; below is at least 1."""
    common = gcd(above, below)
    return above // common, below // common
