"""Rows whose days from a first one on have as much, as early, as can be."""


class EarlyRow:
    """A row whose places all lie as high above the first one as they can.

    Its marks are tuples (place, height), the first place with the height 0 ahead of the others: each place lies as
    high as the rises from all marks allow.
    """

    def __init__(self, sums, marks):
        self._sums = sums
        self._marks = marks

    def height(self, place):
        """Return how high a place lies above the first one."""
        sums = self._sums
        return min([height + sums.rise(place - mark) for mark, height in self._marks])

    def day(self, day):
        """Return the value of a day."""
        return self.height(day + 1) - self.height(day)

    def days(self, length):
        """Return the list of the first days, so many."""
        begin, _ = self._marks[0]
        rows = []
        for mark, height in self._needed_marks():
            rises = self._sums.rises(begin - mark, begin - mark + length)
            rows.append([height + rise for rise in rises])
        heights = [min(column) for column in zip(*rows)]
        return [after - before for before, after in zip(heights, heights[1:])]

    def first_place(self, total, most, width):
        """Return the first place, at least total above the first one, total being at least 1.

        No day may be negative, and width days have at most most, which is the strictest of all mosts and above 0.
        """
        sums = self._sums
        place, _ = self._marks[0]
        for mark, height in self._marks:
            more = total - height
            if sums.rise(place - mark) < more:
                # No rise is less than its share by the strictest most.
                place = mark + first_rise(sums, more, place - mark, -(-more * width // most))
        return place

    def _needed_marks(self):
        """Return the marks without those that lie as high as a mark ahead of them allows, and tell nothing more."""
        sums = self._sums
        kept = []
        for place, height in self._marks:
            if height not in [told + sums.rise(place - mark) for mark, told in kept]:
                kept.append((place, height))
        return kept


def first_rise(sums, least, low, high):
    """Return the first number of days behind low whose rise is at least least; low's is less, high's is not."""
    while high - low > 1:
        middle = (low + high) // 2
        if sums.rise(middle) < least:
            low = middle
        else:
            high = middle
    return high
