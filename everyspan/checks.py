"""The checks that many functions begin with."""

from everyspan.errors import InvalidDay, InvalidKnown, InvalidLength, NoRows


def check_rows(book):
    """Raise NoRows with the first conflict of a book if it has no rows."""
    conflict = book.conflict()
    if conflict is not None:
        raise NoRows(conflict)


def check_length(length):
    """Raise InvalidLength if a length is negative."""
    if length < 0:
        raise InvalidLength(length)


def check_known(known):
    """Raise InvalidKnown for the first known sum with another number of items, or with a length less than 1."""
    for number, told in enumerate(known):
        if len(told) != 3 or told[1] < 1:
            raise InvalidKnown(number)


def check_day(begin, day):
    """Raise InvalidDay if a day lies ahead of the first one."""
    if day < begin:
        raise InvalidDay(day)
