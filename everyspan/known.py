"""What known sums tell of other stretches."""

from everyspan.checks import check_known, check_length, check_rows
from everyspan.ties import Ties, tied


def first_wrong(book, known):
    """Return the number of the first known sum that no row has that has all ahead of it, None if there is none."""
    check_rows(book)
    check_known(known)
    return Ties(book.sums()).add_known(known)


def sure_sums(book, known, begin, length):
    """Return the least and the greatest sum of a stretch in the rows that have all known sums."""
    check_rows(book)
    check_known(known)
    ties = tied(book.sums(), known)
    check_length(length)
    return ties.sure(begin, begin + length)
