"""Known sums and what they tell of one another.

A place n is where day n begins. How high a place lies above another one is the sum of the days between them: a
known sum ties two places to each other. All heights that go together with the book and its ties are told by the
ways from place to place, by days and by ties; no way leads back to where it began lower than that.
"""

from everyspan.errors import Contradiction
from everyspan.early_rows import EarlyRow


class Ties:
    """Ties between places, added one by one, and the most that each of them can lie above each other one."""

    def __init__(self, sums):
        self._sums = sums
        # Each tie: its first place, its last place, and how high that one lies above the first place.
        self._ties = []
        # The item j of the item i: the most that the first place of tie j can lie above that of tie i.
        self._rows = []

    def copied(self):
        """Return ties like these, to which others can be added without these."""
        other = Ties(self._sums)
        other._ties = list(self._ties)
        # Rows are replaced, never changed.
        other._rows = self._rows
        return other

    def add_tie(self, first, last, total):
        """Add a tie and return True; change nothing and return False if it contradicts the others."""
        ways, last_ways = self._ways(first), self._ways(last)
        least, greatest = self._heights(last - first, ways, last_ways)
        if total < least or total > greatest:
            return False
        if least < greatest:
            leaving = [min(here, there + total) for here, there in zip(ways[0], last_ways[0])]
            coming = [min(here, there - total) for here, there in zip(ways[1], last_ways[1])]
            self._extend(leaving, [least_joined(row, coming) for row in self._rows])
            self._ties.append((first, last, total))
        return True

    def add_known(self, known):
        """Add known sums up to the first one that contradicts those ahead of it; return its number, None if none."""
        for number, (begin, length, total) in enumerate(known):
            if not self.add_tie(begin, begin + length, total):
                return number
        return None

    def sure(self, first, last):
        """Return the tuple of the least and the greatest height of the place last above the place first."""
        return self._heights(last - first, self._ways(first), self._ways(last))

    def early_row(self, begin):
        """Return the row whose places, all at once, lie as high above the place begin as they can."""
        leaving, _ = self._ways(begin)
        marks = [(begin, 0)]
        for (first, last, total), height in zip(self._ties, leaving):
            marks.append((first, height))
            marks.append((last, height + total))
        return EarlyRow(self._sums, marks)

    def _ways(self, place):
        """Return the worths of the best ways from a place to the ties, and of those from the ties by days alone."""
        sums = self._sums
        leaving, coming = [], []
        for first, last, total in self._ties:
            leaving.append(min(sums.rise(first - place), sums.rise(last - place) - total))
            coming.append(min(sums.rise(place - first), sums.rise(place - last) + total))
        return [least_joined(leaving, column) for column in zip(*self._rows)], coming

    def _heights(self, days, ways, last_ways):
        """Return the least and the greatest height of a place above the one so many days ahead, by their ways."""
        least, greatest = -self._sums.rise(-days), self._sums.rise(days)
        if self._ties:
            least = max(least, -least_joined(last_ways[0], ways[1]))
            greatest = min(greatest, least_joined(ways[0], last_ways[1]))
        return least, greatest

    def _extend(self, leaving, coming):
        """Let the ways from tie to tie lead over one more, by the ways from it and to it."""
        rows = []
        for row, come in zip(self._rows, coming):
            rows.append([min(told, come + leave) for told, leave in zip(row, leaving)] + [come])
        self._rows = rows + [leaving + [0]]


def least_joined(worths, other_worths):
    """Return the least sum of two worths at the same index."""
    return min([worth + other for worth, other in zip(worths, other_worths)])


def tied(sums, known):
    """Return the ties of known sums; raise Contradiction for the first one that those ahead of it rule out."""
    ties = Ties(sums)
    number = ties.add_known(known)
    if number is not None:
        raise Contradiction(number)
    return ties
