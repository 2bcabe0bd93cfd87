"""The checks that many functions begin with."""

from everyspan.errors import InvalidLength, NoRows


def check_rows(book):
    """Raise NoRows with the first conflict of a book if it has no rows."""
    conflict = book.conflict()
    if conflict is not None:
        raise NoRows(conflict)


def check_length(length):
    """Raise InvalidLength if a length is negative."""
    if length < 0:
        raise InvalidLength(length)
