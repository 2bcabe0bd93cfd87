"""Lists of days that stand, told apart by what can follow them.

What can follow a list is told by its rooms: the most, and the least, that its next 1, 2, .. days can have together.
All lists with the same rooms are at one spot; a day that follows leads from spot to spot, whatever lies behind.
"""


class Spots:
    """The spots of a book's lists, that of the empty list with the number 0, and how many lists lead on from each."""

    def __init__(self, sums):
        # For each spot the least day that can follow, and the spots to which that day and the next greater ones lead.
        self._lows, self._follow = found_spots(sums)
        # The first, second, .. spots that follow all spots; where one has fewer, a last spot that leads nowhere.
        self._columns = filled_columns(self._follow, len(self._follow))
        # The item of a length and a spot: how many lists of this length can follow there.
        self._counts = [[1] * len(self._follow) + [0]]

    def many(self, length):
        """Return how many lists of so many days stand."""
        self._lengthen(length)
        return self._counts[length][0]

    def nth(self, length, index):
        """Return the list of so many days with an index, which there must be."""
        self._lengthen(length)
        days, spot = [], 0
        for left in reversed(range(length)):
            counts, follow = self._counts[left], self._follow[spot]
            number = 0
            while index >= counts[follow[number]]:
                index -= counts[follow[number]]
                number += 1
            days.append(self._lows[spot] + number)
            spot = follow[number]
        return days

    def place(self, days):
        """Return the index of a list among those of its length that stand, None if it does not stand."""
        self._lengthen(len(days))
        index, spot = 0, 0
        for at, day in enumerate(days):
            counts, follow = self._counts[len(days) - 1 - at], self._follow[spot]
            number = day - self._lows[spot]
            if number < 0 or number >= len(follow):
                return None
            for other in follow[:number]:
                index += counts[other]
            spot = follow[number]
        return index

    def _lengthen(self, length):
        """Find how many lists can follow, of all lengths up to this one."""
        while len(self._counts) <= length:
            shorter = self._counts[-1]
            columns = [[shorter[spot] for spot in column] for column in self._columns]
            self._counts.append([sum(many) for many in zip(*columns)] + [0])


def found_spots(sums):
    """Return the lists, by the numbers of the spots, of the least days that follow and of the spots that these reach.

    The spots that a spot reaches are listed by the days that lead there, which follow one another without a gap.
    """
    # The widest bound that is needed tells how many next days there are to look at.
    lengths = range(1, sums.tight_bounds()[-1][0] + 1)
    tops = tuple([sums.greatest(length) for length in lengths])
    falls = tuple([-sums.least(length) for length in lengths])
    rooms = [(tops, falls)]
    numbers = {rooms[0]: 0}
    lows, follow = [], []
    while len(follow) < len(rooms):
        ups, downs = rooms[len(follow)]
        reached = []
        for day in range(-downs[0], ups[0] + 1):
            room = (passed(ups, tops, day), passed(downs, falls, -day))
            if room not in numbers:
                numbers[room] = len(rooms)
                rooms.append(room)
            reached.append(numbers[room])
        lows.append(-downs[0])
        follow.append(reached)
    return lows, follow


def filled_columns(rows, filler):
    """Return the columns of rows, the shorter ones of which are filled up."""
    most = max([len(row) for row in rows])
    filled = [row + [filler] * (most - len(row)) for row in rows]
    return list(zip(*filled))


def passed(rooms, tops, day):
    """Return the most that the next 1, 2, .. days can have behind a day; tops is what any so many days can have."""
    return tuple([min(room - day, top) for room, top in zip(rooms[1:], tops)] + [tops[-1]])
