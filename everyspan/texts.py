"""The texts of books and of known sums."""


def show_book(book):
    """Return the text of a book."""
    parts = [f"{book.low}..{book.high}"]
    for width, least, most in book.rules:
        parts.append(f"{width}: {least}..{most}")
    return "; ".join(parts)


def show_known(known):
    """Return the text of known sums."""
    if not known:
        return "-"
    return " ".join([f"{begin}+{length}={total}" for begin, length, total in known])
