"""What the tests hold the program against: slow ways that follow the words of the document."""

import itertools
import random
from collections import deque
from fractions import Fraction
from functools import lru_cache
from heapq import heappop, heappush

from everyspan.books import Book
from everyspan.known import sure_sums


def live_windows(book, size):
    """All lists of size days that stand in lists that go on both ways, found by trying all; size covers all widths."""
    assert all(width <= size for width, _, _ in book.rules)
    days = range(book.low, book.high + 1)
    live = {row for row in itertools.product(days, repeat=size) if keeps_rules(row, book.rules)}
    while True:
        heads = {row[:-1] for row in live}
        tails = {row[1:] for row in live}
        left = {row for row in live if row[1:] in heads and row[:-1] in tails}
        if left == live:
            return live
        live = left


def keeps_rules(row, rules):
    for width, least, most in rules:
        for at in range(len(row) - width + 1):
            if not least <= sum(row[at:at + width]) <= most:
                return False
    return True


def tried_sums(book, size, lengths):
    """The (least, greatest) sums of 0, 1, .. lengths days, found by trying all; None without rows."""
    live = live_windows(book, size)
    if not live:
        return None
    follow = {}
    for row in live:
        follow.setdefault(row[:-1], []).append(row)
    low = {state: 0 for state in follow}
    high = dict(low)
    told = [(0, 0)]
    for _ in range(lengths):
        low = {state: min(row[-1] + low[row[1:]] for row in follow[state]) for state in follow}
        high = {state: max(row[-1] + high[row[1:]] for row in follow[state]) for state in follow}
        told.append((min(low.values()), max(high.values())))
    return told


def bounds_of(book):
    return [(1, book.low, book.high)] + book.rules


def tried_conflict(book):
    bounds = bounds_of(book)
    found = [(i, j) for i, one in enumerate(bounds) for j, other in enumerate(bounds)
             if Fraction(one[1], one[0]) > Fraction(other[2], other[0])]
    return min(found) if found else None


def walked_sums(book, lengths):
    """The greatest sums of -lengths to lengths days of a book with rows, by shortest ways over a wide line of days."""
    bounds = bounds_of(book)
    share = min(Fraction(most, width) for width, _, most in bounds)
    scale, lift = share.denominator, share.numerator
    moves = [(width, most * scale - lift * width) for width, _, most in bounds]
    moves += [(-width, lift * width - least * scale) for width, least, _ in bounds]
    end = lengths + 2 * max(width for width, _, _ in bounds)
    best, queue = {0: 0}, [(0, 0)]
    while queue:
        cost, at = heappop(queue)
        if cost > best[at]:
            continue
        for move, more in moves:
            place = at + move
            if -end <= place <= end and cost + more < best.get(place, cost + more + 1):
                best[place] = cost + more
                heappush(queue, (cost + more, place))
    return {at: (best[at] + lift * at) // scale for at in range(-lengths, lengths + 1)}


def halved_sums(book, length):
    """The (least, greatest) sums of a far length, put together from those of about half of it, again and again."""
    widest = max(width for width, _, _ in bounds_of(book))
    near = walked_sums(book, 8 * widest)

    @lru_cache(maxsize=None)
    def greatest(sign, days):
        if days <= 8 * widest:
            return sign * near[days] if sign > 0 else near[-days]
        middle = days // 2
        return min(greatest(sign, middle + k) + greatest(sign, days - middle - k) for k in range(-widest, widest + 1))

    return -greatest(-1, length), greatest(1, length)


def small_books(seed, many, rules=3, widest=4, spread=2):
    """Books of few values and short rules, with rows and without."""
    chance = random.Random(seed)
    books = []
    for _ in range(many):
        low = chance.randint(-3, 2)
        high = low + chance.randint(0, spread)
        told = []
        for _ in range(chance.randint(0, rules)):
            width = chance.randint(1, widest)
            ends = sorted(chance.randint(low * width - 1, high * width + 1) for _ in range(2))
            told.append((width, ends[0], ends[1]))
        books.append(Book(low, high, told))
    return books


def limit_books(seed, many, rules=6, widest=40, lowest=-20):
    """Books with rows at the limits of the document; the rules of many of them are close to one another."""
    chance = random.Random(seed)
    books = []
    while len(books) < many:
        low = chance.randint(lowest, 20)
        high = chance.randint(low, 20)
        share = chance.randint(low * 1000, high * 1000)
        slack = chance.choice([0, 1, 3, 12, 60])
        told = []
        for _ in range(rules):
            width = chance.randint(1, widest)
            least = width * share // 1000 - chance.randint(0, slack)
            most = -(-width * share // 1000) + chance.randint(0, slack)
            told.append((width, least, most))
        book = Book(low, high, told)
        if tried_conflict(book) is None:
            books.append(book)
    return books


def day_books(seed, many):
    """Books with rows, days from 0 to 1 (of 0 or of 1 alone, too) and up to six rules of widths to 7."""
    chance = random.Random(seed)
    books = []
    while len(books) < many:
        low, high = chance.choice([(0, 1)] * 10 + [(0, 0), (1, 1)])
        share, slack = chance.random(), chance.choice([0, 1, 2])
        told = []
        for width in chance.sample(range(1, 8), chance.randint(0, 6)):
            least = int(width * share) - chance.randint(0, slack)
            most = int(width * share) + 1 + chance.randint(0, slack)
            told.append((width, chance.choice([least, least, 0]), max(0, chance.choice([most, most, width]))))
        if all(least <= most for _, least, most in told):
            book = Book(low, high, told)
            if tried_conflict(book) is None:
                books.append(book)
    return books


def tried_lists(book, length):
    """All lists of so many days that stand, in their sequence, for widths to 7, found by trying all."""
    if length >= 7:
        return [list(row) for row in tried_rows(book, 7, length)]
    return [list(row) for row in sorted({row[:length] for row in live_windows(book, 7)})]


def walked_count(book, length):
    """How many lists of so many days, at least 7, stand, for widths to 7, by walks over lists of 7 days."""
    many = dict.fromkeys(live_windows(book, 7), 1)
    for _ in range(length - 7):
        longer = dict.fromkeys(many, 0)
        for row, told in many.items():
            for day in (book.low, book.high)[:book.high - book.low + 1]:
                if row[1:] + (day,) in longer:
                    longer[row[1:] + (day,)] += told
        many = longer
    return sum(many.values())


def tried_rows(book, size, length):
    """All lists of so many days, at least size, that stand in lists that go on both ways; size covers all widths."""
    rows = live_windows(book, size)
    follow = {}
    for row in rows:
        follow.setdefault(row[:-1], []).append(row[-1])
    for at in range(length - size):
        rows = [row + (day,) for row in rows for day in follow[row[at + 1:]]]
    return sorted(rows)


def walked_heights(book, known, begin, first, last):
    """The most that the places from first to last can lie above begin, by shortest ways over a wide line of places.

    All ends of known sums, which some row has, lie from first to last, too.
    """
    bounds = bounds_of(book)
    beyond = 3 * max(width for width, _, _ in bounds)
    places = range(first - beyond, last + beyond + 1)
    moves = [(width, most) for width, _, most in bounds] + [(-width, -least) for width, least, _ in bounds]
    ties = {}
    for start, length, total in known:
        ties.setdefault(start, []).append((length, total))
        ties.setdefault(start + length, []).append((-length, -total))
    best, waiting, queued, steps = {begin: 0}, deque([begin]), {begin}, 0
    while waiting:
        steps += 1
        assert steps < 300 * len(places), "the known sums do not go together"
        at = waiting.popleft()
        queued.remove(at)
        for move, more in moves + ties.get(at, []):
            place, height = at + move, best[at] + more
            if place in places and (place not in best or height < best[place]):
                best[place] = height
                if place not in queued:
                    queued.add(place)
                    waiting.append(place)
    return {place: best[place] for place in range(first, last + 1)}


def walked_wrong(book, known):
    """The number of the first known sum that those ahead of it rule out, None if there is none, by shortest ways."""
    ends = [begin for begin, _, _ in known] + [begin + length for begin, length, _ in known]
    for number, (begin, length, total) in enumerate(known):
        up = walked_heights(book, known[:number], begin, min(ends), max(ends))
        down = walked_heights(book.turned(), turned_known(known[:number]), begin, min(ends), max(ends))
        if not -down[begin + length] <= total <= up[begin + length]:
            return number
    return None


def known_sums(chance, book, many, spread, longest):
    """Known sums that go together, each with a total that the ones ahead of it leave, often the least or greatest."""
    known = []
    for _ in range(many):
        begin, length = chance.randint(-spread, spread), chance.randint(1, longest)
        least, greatest = sure_sums(book, known, begin, length)
        known.append((begin, length, chance.choice([least, greatest, chance.randint(least, greatest)])))
    return known


def close_books(seed, many):
    """Books with two rules of widths next to 40 around one share, and some more rules."""
    chance = random.Random(seed)
    books = []
    while len(books) < many:
        low, high = chance.choice([-20, 0]), chance.randint(1, 20)
        share = chance.randint(low * 1000, high * 1000)
        widths = chance.sample(range(34, 41), 2) + [chance.randint(1, 40) for _ in range(chance.randint(0, 4))]
        told = []
        for width in widths:
            least, most = width * share // 1000, -(-width * share // 1000)
            told.append((width, least - chance.randint(0, 1), most + chance.randint(0, 1)))
        book = Book(low, high, told)
        if tried_conflict(book) is None:
            books.append(book)
    return books


def moved(known, by):
    return [(begin + by, length, total) for begin, length, total in known]


def turned_known(known):
    return [(begin, length, -total) for begin, length, total in known]
