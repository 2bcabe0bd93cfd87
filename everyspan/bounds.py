"""What can be told of bounds, tuples (width, least, most), one by one and two by two."""


def is_rule(rule):
    """Return True if a tuple (width, least, most) is a rule, otherwise False."""
    width, least, most = rule
    return width >= 1 and least <= most


def highest_least(bounds):
    """Return (least, width) of the first bound with the greatest least divided by its width."""
    best_width, best_least, _ = bounds[0]
    for width, least, _ in bounds:
        if least * best_width > best_least * width:
            best_width, best_least = width, least
    return best_least, best_width


def lowest_most(bounds):
    """Return (most, width) of the first bound with the least most divided by its width."""
    best_width, _, best_most = bounds[0]
    for width, _, most in bounds:
        if most * best_width < best_most * width:
            best_width, best_most = width, most
    return best_most, best_width


def first_conflict(bounds):
    """Return the first (i, j) such that the least of i is too much for the most of j, None if there is none."""
    lowest, lowest_width = lowest_most(bounds)
    for i, (width, least, _) in enumerate(bounds):
        # Where the strictest most lets a least pass, all others do.
        if least * lowest_width > lowest * width:
            return i, first_exceeded(bounds, width, least)
    return None


def first_exceeded(bounds, width, least):
    """Return the number of the first bound whose most, divided by its width, is below least divided by width."""
    for j, (other_width, _, most) in enumerate(bounds):
        if least * other_width > most * width:
            return j
    return None
