"""Which rules are told by others, and which books have the same rows."""

from everyspan.books import Book
from everyspan.bounds import is_rule
from everyspan.checks import check_rows
from everyspan.errors import InvalidNumber, InvalidRule


def tells(book, rule):
    """Return True if all rows of a book keep a rule, otherwise False."""
    check_rows(book)
    if not is_rule(rule):
        raise InvalidRule(0)
    return keeps(book, rule)


def is_needless(book, number):
    """Return True if the book without the rule with a number has the same rows, otherwise False."""
    check_rows(book)
    rules = book.rules
    if number < 0 or number >= len(rules):
        raise InvalidNumber(number)
    others = rules[:number] + rules[number + 1:]
    return keeps(Book(book.low, book.high, others), rules[number])


def kept_rules(book):
    """Return the rules that are left when, from the last one on, each one that the others tell is taken away."""
    check_rows(book)
    rules = book.rules
    for number in reversed(range(len(rules))):
        others = rules[:number] + rules[number + 1:]
        if keeps(Book(book.low, book.high, others), rules[number]):
            rules = others
    return rules


def same_rows(book, other_book):
    """Return True if two books have the same rows, otherwise False."""
    check_rows(book)
    check_rows(other_book)
    return keeps_all(book, other_book.bounds()) and keeps_all(other_book, book.bounds())


def first_unlike(book, other_book):
    """Return (length, word) of the least length at which the sums of two books are unlike, None if there is none."""
    check_rows(book)
    check_rows(other_book)
    sums, other_sums = book.sums(), other_book.sums()
    # If all sums up to the reach are alike, each book keeps the bounds that tell the other one.
    for length in range(1, max(sums.reach(), other_sums.reach()) + 1):
        if sums.least(length) != other_sums.least(length):
            return length, "least"
        if sums.greatest(length) != other_sums.greatest(length):
            return length, "greatest"
    return None


def keeps(book, bound):
    """Return True if all rows of a book, which has some, keep a bound, otherwise False."""
    width, least, most = bound
    sums = book.sums()
    return least <= sums.least(width) and sums.greatest(width) <= most


def keeps_all(book, bounds):
    """Return True if all rows of a book, which has some, keep all bounds, otherwise False."""
    for bound in bounds:
        if not keeps(book, bound):
            return False
    return True
