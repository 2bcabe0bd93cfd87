"""Steps and where they lead: what the bounds tell of the sums of few days.

A step (width, worth) tells that the sum of any width days is at most worth. Going back is a step, too: the sum of
any width days is at least least, so without them there is at most -least more. All rows keep a book exactly if they
keep its steps; the greatest sum of n days is the least worth of steps that lead, forward and back, from 0 to n.
"""

from heapq import heappush, heappop


def strictest(steps):
    """Return the step with the least worth for each day, the shortest one of several such."""
    best_width, best_worth = steps[0]
    for width, worth in steps:
        more = worth * best_width - best_worth * width
        if more < 0 or (more == 0 and width < best_width):
            best_width, best_worth = width, worth
    return best_width, best_worth


def needed_steps(steps, back):
    """Return the steps without most of those that others tell; steps[0] and back are of a single day each."""
    day = steps[0][1]
    wide, top = strictest(steps)
    kept = {1: day, wide: top}
    for width, worth in steps:
        many, rest = divmod(width, wide)
        told = min(many * top + rest * day, (many + 1) * top + (wide - rest) * back)
        if worth < kept.get(width, told):
            kept[width] = worth
    return list(kept.items())


def near_sums(ups, downs):
    """Return the greatest sums of -reach to reach days by steps forward and back, reach being their greatest width.

    The sum of -n days is what n days less can add at most, the negative of their least sum.
    """
    wide, top = strictest(ups)
    reach = max([step[0] for step in ups + downs])
    many = 2 * reach + 1
    # Measured by what it is worth beyond the strictest step, no step is negative if there are rows.
    forward = [(width, (worth * wide - top * width) * many + width) for width, worth in ups]
    backward = [(-width, (worth * wide + top * width) * many - width) for width, worth in downs]
    keys = least_keys(forward + backward, reach)
    return [(key // many + top * (place - reach)) // wide for place, key in enumerate(keys)]


def least_keys(moves, reach):
    """Return for each place the least key (cost * number of places + place) of a way from the middle place to it.

    There are reach places on each side of the middle one. A move is a tuple of how far it goes and what it adds to
    the key. Ways may be kept within these places: the steps of a way, put into another order, go forward while they
    are at the middle or behind it, and back otherwise.
    """
    many = 2 * reach + 1
    beyond = (many + 1) * max([more for _, more in moves]) + many
    # Beyond the places at either end lies what no key is below, as those of places from -reach on are above -many.
    # The indexes from -reach to -1 lead there, too.
    best = [beyond] * many + [-many] * reach
    best[reach] = reach
    heap = [reach]
    while heap:
        key = heappop(heap)
        place = key % many
        if key == best[place]:
            for move, more in moves:
                if key + more < best[place + move]:
                    best[place + move] = key + more
                    heappush(heap, key + more)
    return best[:many]


def undivided(sums):
    """Return the lengths, from 1 on, whose greatest sums are less than those of any two parts of them together.

    The sums are those of 0, 1, .. days. If a length has such parts, one of them may be an undivided length.
    """
    found = []
    for length in range(1, len(sums)):
        parts = [sums[part] + sums[length - part] for part in found]
        if not parts or sums[length] < min(parts):
            found.append(length)
    return found
