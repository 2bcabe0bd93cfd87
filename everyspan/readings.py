"""Books and known sums, read from their texts."""

from everyspan.books import Book
from everyspan.errors import InvalidDays, InvalidRule, Unreadable

MOST_DIGITS = 40


def read_book(text):
    """Return the book with a text."""
    parts = text.split("; ")
    days = integers_of(parts[0], [".."])
    rules = [integers_of(part, [": ", ".."]) for part in parts[1:]]
    if days is None or None in rules:
        raise Unreadable(text)
    low, high = days
    try:
        return Book(low, high, rules)
    except (InvalidDays, InvalidRule):
        raise Unreadable(text) from None


def read_known(text):
    """Return the known sums with a text."""
    if text == "-":
        return []
    known = [integers_of(part, ["+", "="]) for part in text.split(" ")]
    if None in known or min([length for _, length, _ in known]) < 1:
        raise Unreadable(text)
    return known


def integers_of(text, marks):
    """Return the tuple of the integers that a text holds, with a mark between each two, None if it does not."""
    words = []
    rest = text
    for mark in marks:
        # Without the mark nothing is left, which is no integer.
        word, _, rest = rest.partition(mark)
        words.append(word)
    integers = [integer_of(word) for word in words + [rest]]
    return None if None in integers else tuple(integers)


def integer_of(word):
    """Return the integer that a word is written for, None if it is for none."""
    digits = word.removeprefix("-")
    if len(digits) > MOST_DIGITS or not digits.isascii() or not digits.isdigit():
        return None
    integer = int(word)
    # Leading zeros, and a minus ahead of 0, are not written.
    return integer if str(integer) == word else None
