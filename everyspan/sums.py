"""The greatest and the least sums of any number of days in the rows of a book."""

from math import gcd

from everyspan.steps import near_sums, needed_steps, strictest


class Sums:
    """The sums in the rows of a book, told by its bounds, which have no conflict; the first one is of one day."""

    def __init__(self, bounds):
        _, low, high = bounds[0]
        ups = needed_steps([(width, most) for width, _, most in bounds], -low)
        downs = needed_steps([(width, -least) for width, least, _ in bounds], high)
        near = near_sums(ups, downs)
        self._reach = len(near) // 2
        self._up = Side(near[self._reach:], ups)
        self._down = Side(near[self._reach::-1], downs)

    def reach(self):
        """Return a length such that the sums up to it tell all other ones."""
        return self._reach

    def greatest(self, length):
        """Return the greatest sum of so many days."""
        return self._up.greatest(length)

    def least(self, length):
        """Return the least sum of so many days."""
        return -self._down.greatest(length)


class Side:
    """The greatest sums of any number of days: those of 0, 1, .. days, and the steps by which one goes on."""

    def __init__(self, near, steps):
        self._near = near
        # A step that is worth more than the days have anyway is never of use.
        self._steps = [(width, worth) for width, worth in steps if near[width] == worth]
        self._width, self._worth = strictest(self._steps)
        self._far = None
        self._since = None

    def greatest(self, length):
        """Return the greatest sum of so many days, from 0 on."""
        if length < len(self._near):
            return self._near[length]
        if self._far is None:
            self._find_far()
        rest = length % self._width
        if length >= self._since[rest]:
            return self._far[rest] + length // self._width * self._worth
        self._lengthen(length)
        return self._near[length]

    def _find_far(self):
        """Find, for each rest by the strictest width, the sums once lengths are great, and since when they are so.

        An entry is the excess over the strictest step, times size, and the length of the days that it takes. All
        greater lengths of that rest have the least excess, as the strictest step adds none.
        """
        wide, top = self._width, self._worth
        size = (2 * wide * len(self._steps) + 1) * len(self._near)
        entries = [(worth * wide - top * length) * size + length for length, worth in enumerate(self._near)]
        table = [min(entries[rest::wide]) for rest in range(wide)]
        for width, worth in self._steps:
            spread(table, width, (worth * wide - top * width) * size + width)
        self._far = [(entry // size + top * rest) // wide for rest, entry in enumerate(table)]
        self._since = [entry % size for entry in table]

    def _lengthen(self, length):
        """Find the sums of all lengths up to this one.

        Each of them ends in a step. Steps that are so short that there would be as many of them as the strictest one
        is wide may be left out: some of them could be exchanged for strictest ones.
        """
        near, wide = self._near, self._width
        while len(near) <= length:
            at = len(near)
            ends = [(width, worth) for width, worth in self._steps if width * wide > at or width == wide]
            size = min([width for width, _ in ends])
            rows = [[told + worth for told in near[at - width:at - width + size]] for width, worth in ends]
            near.extend([min(column) for column in zip(*rows)])


def spread(table, width, more):
    """Let a step of a width, any number of times, lead from each rest of the table to others at so much more."""
    wide = len(table)
    shift = width % wide
    circles = gcd(shift, wide)
    for first in range(circles):
        at = first
        entry = table[at]
        # Nearly twice around: the least entry of a circle may be the last one that is met.
        for _ in range(2 * (wide // circles) - 2):
            at = (at + shift) % wide
            entry = min(entry + more, table[at])
            table[at] = entry
