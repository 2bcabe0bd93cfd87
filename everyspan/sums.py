"""The greatest and the least sums of any number of days in the rows of a book."""

from math import gcd

from everyspan.steps import near_sums, needed_steps, strictest, undivided


def sums_of(bounds):
    """Return the sums that bounds without a conflict tell; the first one is of one day."""
    _, low, high = bounds[0]
    ups = needed_steps([(width, most) for width, _, most in bounds], -low)
    downs = needed_steps([(width, -least) for width, least, _ in bounds], high)
    near = near_sums(ups, downs)
    reach = len(near) // 2
    return Sums(Side(near[reach:], ups), Side(near[reach::-1], downs))


class Sums:
    """The sums in the rows of a book; its sides have the greatest sums of the book and those of the turned book."""

    def __init__(self, up, down):
        self._up = up
        self._down = down
        self._tight = None

    def turned(self):
        """Return the sums of the turned book, which shares its sides with this one."""
        return Sums(self._down, self._up)

    def reach(self):
        """Return a length such that the sums up to it tell all other ones."""
        return self._up.reach()

    def greatest(self, length):
        """Return the greatest sum of so many days."""
        return self._up.greatest(length)

    def least(self, length):
        """Return the least sum of so many days."""
        return -self._down.greatest(length)

    def rise(self, days):
        """Return the most that the place so many days further, or back, can lie above a place."""
        if days < 0:
            return self._down.greatest(-days)
        return self._up.greatest(days)

    def rises(self, first, last):
        """Return the list of the rises of first to last days, first being at most last."""
        back, forth = [], []
        if first < 0:
            back = self._down.greatest_ones(max(1, -last), -first)
        if last >= 0:
            forth = self._up.greatest_ones(max(0, first), last)
        return back[::-1] + forth

    def tight_bounds(self):
        """Return the list of bounds, by their widths, that a list of days keeps exactly if it is part of a row.

        A list is part of one if the sums of all its parts are among those of so many days. If the greatest sum of so
        many days is made up of the greatest ones of fewer, it is enough to ask these. Beyond the reach it always is:
        of the steps that lead there, each forward one and the others together are such parts.
        """
        if self._tight is None:
            ups = self._up.undivided_lengths()
            widths = ups + [width for width in self._down.undivided_lengths() if width not in ups]
            self._tight = [(width, self.least(width), self.greatest(width)) for width in sorted(widths)]
        return self._tight


class Side:
    """The greatest sums of any number of days: those of 0, 1, .. days, and the steps by which one goes on."""

    def __init__(self, near, steps):
        self._near = near
        self._reach = len(near) - 1
        # A step that is worth more than the days have anyway is never of use.
        self._steps = [(width, worth) for width, worth in steps if near[width] == worth]
        self._width, self._worth = strictest(self._steps)
        self._far = None
        self._since = None

    def reach(self):
        """Return a length such that the sums up to it, of both sides, tell all other ones."""
        return self._reach

    def undivided_lengths(self):
        """Return the lengths whose greatest sums are not made up of those of fewer days."""
        return undivided(self._near[:self._reach + 1])

    def greatest(self, length):
        """Return the greatest sum of so many days, from 0 on."""
        if length < len(self._near):
            return self._near[length]
        if self._far is None:
            self._find_far()
        rest = length % self._width
        if length >= self._since[rest]:
            return self._far[rest] + length // self._width * self._worth
        self._lengthen(length)
        return self._near[length]

    def greatest_ones(self, first, last):
        """Return the list of the greatest sums of first to last days, from 0 on, first being at most last."""
        if last >= len(self._near):
            if self._far is None:
                self._find_far()
            steady = max(self._since)
            if first < steady:
                self._lengthen(min(last, steady))
        told = self._near[first:last + 1]
        return told + self._far_ones(first + len(told), last)

    def _far_ones(self, first, last):
        """Return the list of the greatest sums of first to last days once lengths are great; none if last is less."""
        if first > last:
            return []
        many, rest = divmod(first, self._width)
        circle = self._far[rest:] + [entry + self._worth for entry in self._far[:rest]]
        turns = [(many + turn) * self._worth for turn in range((last - first) // self._width + 1)]
        told = [entry + more for more in turns for entry in circle]
        return told[:last - first + 1]

    def _find_far(self):
        """Find, for each rest by the strictest width, the sums once lengths are great, and since when they are so.

        An entry is the excess over the strictest step, times size, and the length of the days that it takes. All
        greater lengths of that rest have the least excess, as the strictest step adds none.
        """
        wide, top = self._width, self._worth
        size = (2 * wide * len(self._steps) + 1) * len(self._near)
        entries = [(worth * wide - top * length) * size + length for length, worth in enumerate(self._near)]
        table = [min(entries[rest::wide]) for rest in range(wide)]
        for width, worth in self._steps:
            spread(table, width, (worth * wide - top * width) * size + width)
        self._far = [(entry // size + top * rest) // wide for rest, entry in enumerate(table)]
        self._since = [entry % size for entry in table]

    def _lengthen(self, length):
        """Find the sums of all lengths up to this one.

        Each of them ends in a step. Steps that are so short that there would be as many of them as the strictest one
        is wide may be left out: some of them could be exchanged for strictest ones.
        """
        near, wide = self._near, self._width
        while len(near) <= length:
            at = len(near)
            ends = [(width, worth) for width, worth in self._steps if width * wide > at or width == wide]
            size = min([width for width, _ in ends])
            rows = [[told + worth for told in near[at - width:at - width + size]] for width, worth in ends]
            near.extend([min(column) for column in zip(*rows)])


def spread(table, width, more):
    """Let a step of a width, any number of times, lead from each rest of the table to others at so much more."""
    wide = len(table)
    shift = width % wide
    circles = gcd(shift, wide)
    for first in range(circles):
        at = first
        entry = table[at]
        # Nearly twice around: the least entry of a circle may be the last one that is met.
        for _ in range(2 * (wide // circles) - 2):
            at = (at + shift) % wide
            entry = min(entry + more, table[at])
            table[at] = entry
