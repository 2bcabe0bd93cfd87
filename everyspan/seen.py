"""Lists of days that were seen: whether some row has them, and how they can go on."""

from everyspan.checks import check_rows


def stands(book, days):
    """Return True if some row of a book has a list of days somewhere, otherwise False."""
    return first_lost(book, days) is None


def first_lost(book, days):
    """Return the index of the first day such that the days up to it do not stand, None if there is none."""
    check_rows(book)
    heights = heights_of(days)
    for bound in book.sums().tight_bounds():
        heights = heights[:kept_days(heights, bound) + 1]
    return None if len(heights) > len(days) else len(heights) - 1


def next_days(book, days):
    """Return the least and the greatest value of the next day behind a list, None if the list does not stand."""
    if not stands(book, days):
        return None
    heights = heights_of(days)
    lows, highs = [], []
    for width, least, most in book.sums().tight_bounds():
        if width <= len(heights):
            last = heights[-1] - heights[-width]
            lows.append(least - last)
            highs.append(most - last)
    return max(lows), min(highs)


def heights_of(days):
    """Return the sums of the first 0, 1, .. days of a list."""
    heights = [0]
    for day in days:
        heights.append(heights[-1] + day)
    return heights


def kept_days(heights, bound):
    """Return how many days, from the first one on, keep a bound; heights are the sums of the first days."""
    width, least, most = bound
    sums = [after - before for before, after in zip(heights, heights[width:])]
    if sums and (min(sums) < least or max(sums) > most):
        for at, told in enumerate(sums):
            if told < least or told > most:
                return at + width - 1
    return len(heights) - 1
