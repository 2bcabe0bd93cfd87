"""Promises 6 and 7: the early and the late rows, their days one by one and in lists, and early places."""

import random
import unittest

from everyspan.books import Book
from everyspan.early import early_day, early_days, early_place, late_day, late_days
from everyspan.errors import Contradiction, InvalidDay, InvalidDays, InvalidKnown, InvalidLength, InvalidNumber, NoRows
from everyspan.known import sure_sums
from tests.helper import (bounds_of, close_books, known_sums, keeps_rules, limit_books, moved, turned_known,
                          walked_heights)
from tests.test_books import EMPTY, caught
from tests.test_known import BOTH, FAR, FREE, OTHER_EMPTY, PLANT, tried_cases
from tests.test_spans import SLOW

WRONG_KNOWN = (([(0, 3)], 0), ([(0, 3, 1), (0, 3, 1, 1)], 1), ([(0, 3, 1), ()], 1), ([(0, 0, 0)], 0),
               ([(0, 3, 99), (5, -2, 0), (1, 2)], 1))
WRONG = [(0, 3, 1), (3, 4, 0), (0, 3, 2)]


def cases(seed, many, spread=60, longest=50):
    """Books at the limits with known sums, some with none, one, four or twelve."""
    chance = random.Random(seed)
    found = []
    for book in limit_books(seed, many) + close_books(seed, many) + SLOW:
        found.append((book, known_sums(chance, book, chance.choice([0, 1, 4, 12]), spread, longest)))
    return found


class DaysTest(unittest.TestCase):

    def check(self, book, known, begin, early, late):
        """The lists are told, also the days one by one; known sums stay as they are."""
        passed = list(known)
        self.assertEqual(early_days(book, passed, begin, len(early)), early, (book.rules, known, begin))
        self.assertEqual(late_days(book, passed, begin, len(late)), late, (book.rules, known, begin))
        days = range(begin, begin + len(early))
        self.assertEqual([early_day(book, passed, begin, day) for day in days], early)
        self.assertEqual([late_day(book, passed, begin, day) for day in days], late)
        self.assertEqual(passed, known)

    def test_nothing_known(self):
        for begin in (0, -3, FAR, -FAR):
            self.check(BOTH, [], begin, [1, 0, 0, 1, 0, 0, 1, 0, 0, 1], [0, 0, 0, 1, 0, 0, 1, 0, 0, 0])
            self.check(PLANT, [], begin, [1] * 10, [0, 0, 0, 0, 0, 1, 1, 0, 0, 0])
            self.check(Book(-2, 5, []), [], begin, [5] * 4, [-2] * 4)

    def test_days_one_by_one_far(self):
        for day in (0, 3, 3 * 10 ** 29, 3 * 10 ** 29 + 1, FAR - 1, FAR):
            self.assertEqual(early_day(BOTH, [], 0, day), 1 if day % 3 == 0 else 0)
            self.assertEqual(early_day(BOTH, [(0, 3, 0)], 0, day), 1 if day % 3 == 0 and day else 0)
            self.assertEqual(late_day(PLANT, [], 0, day), 1 if day % 7 > 4 else 0)

    def test_known(self):
        self.check(BOTH, [(2, 1, 1)], 0, [0, 0, 1, 0, 0], [0, 0, 1, 0, 0])
        self.check(BOTH, [(2, 1, 1)], 3, [0, 0, 1, 0, 0, 1], [0, 0, 0, 1, 0, 0])
        self.check(BOTH, [(2, 1, 1)], 1, [0, 1, 0, 0, 1], [0, 1, 0, 0, 0])
        self.check(BOTH, [(5, 1, 1)], 0, [0, 1, 0, 0, 0, 1, 0, 0, 1], [0, 0, 1, 0, 0, 1, 0, 0, 0])
        self.check(FREE, [(3, 4, 2)], 0, [1, 1, 1, 1, 1, 0, 0, 1, 1], [0, 0, 0, 0, 0, 1, 1, 0, 0])
        self.check(FREE, [(3, 4, 2)], 5, [1, 1, 1, 1], [0, 0, 0, 0])
        self.check(FREE, [(3, 4, 3)], 5, [1, 1, 1, 1], [0, 1, 0, 0])
        self.check(FREE, [(0, FAR, 4)], 0, [1, 1, 1, 1, 0, 0], [0, 0, 0, 0, 0, 0])
        self.check(FREE, [(0, FAR, 4)], FAR - 3, [1, 1, 1, 1], [0, 0, 0, 0])
        self.assertEqual(late_days(FREE, [(0, FAR, 4)], FAR - 6, 8), [0] * 8)
        self.assertEqual([late_day(FREE, [(0, FAR, 4)], 0, FAR - 6 + k) for k in range(8)], [0, 0, 1, 1, 1, 1, 0, 0])

    def test_length_0_and_new_lists(self):
        for call in (early_days, late_days):
            self.assertEqual(call(BOTH, [(2, 1, 1)], 0, 0), [])
            for length in (0, 3):
                told = call(BOTH, [(2, 1, 1)], 0, length)
                self.assertIsInstance(told, list)
                told.append(99)
                self.assertEqual(call(BOTH, [(2, 1, 1)], 0, length), [0, 0, 1][:length])

    def test_against_all_lists(self):
        tried = 0
        for book, known, wrong, rows in tried_cases(80, 400):
            if wrong is not None:
                continue
            for begin in range(7):
                early = list(max(row[begin:] for row in rows))
                late = list(min(row[begin:] for row in rows))
                self.check(book, known, begin, early, late)
                self.check(book, moved(known, -FAR), begin - FAR, early, late)
            tried += 1
        self.assertGreater(tried, 120)

    def test_against_walks(self):
        chance = random.Random(81)
        for book, known in cases(81, 10, 90, 60):
            for begin in (-150, chance.randint(-90, 140)):
                up = walked_heights(book, known, begin, -160, 160 + 100)
                down = walked_heights(book.turned(), turned_known(known), begin, -160, 160 + 100)
                places = range(begin, begin + 110)
                self.check(book, known, begin, [up[place + 1] - up[place] for place in places],
                           [down[place] - down[place + 1] for place in places])

    def test_sums_are_the_sure_ones(self):
        chance = random.Random(82)
        for spread, longest in ((60, 50), (1600, 1600), (FAR, FAR)):
            for book, known in cases(82, 6, spread, longest):
                begin = chance.choice([-spread, chance.randint(-spread, spread)] + [row[0] for row in known])
                early, late = early_days(book, known, begin, 400), late_days(book, known, begin, 400)
                for length in list(range(60)) + [150, 399, 400]:
                    self.assertEqual((sum(late[:length]), sum(early[:length])), sure_sums(book, known, begin, length))

    def test_days_keep_the_book_and_the_known_sums(self):
        chance = random.Random(83)
        for book, known in cases(83, 10):
            begin = chance.randint(-70, 20)
            for days in (early_days(book, known, begin, 200), late_days(book, known, begin, 200)):
                self.assertTrue(keeps_rules(days, bounds_of(book)))
                for start, length, total in known:
                    if start >= begin and start + length <= begin + 200:
                        self.assertEqual(sum(days[start - begin:start - begin + length]), total)

    def test_around_far_stretches(self):
        """First days ahead of the stretches, at their ends, within and behind them: lists and days are the same."""
        chance = random.Random(84)
        for book, known in cases(84, 2, FAR, FAR):
            ends = [start for start, _, _ in known] + [start + length for start, length, _ in known]
            for begin in [-FAR, 0, FAR] + chance.sample(ends, min(len(ends), 2)):
                for first in [begin, begin + FAR] + [end - 3 for end in ends if end - 3 >= begin][:3]:
                    days = range(first, first + 6)
                    for one, least in ((early_day, False), (late_day, True)):
                        told = [one(book, known, begin, day) for day in days]
                        for many in range(1, 7):
                            ahead = sure_sums(book, known, begin, first - begin)
                            behind = sure_sums(book, known, begin, first + many - begin)
                            place = 0 if least else 1
                            self.assertEqual(sum(told[:many]), behind[place] - ahead[place])
                        if first == begin:
                            many = late_days if least else early_days
                            self.assertEqual(many(book, known, begin, 6), told)

    def test_long_lists(self):
        """Rules around one share repeat late: the lists are those of shortest ways, and go on evenly far behind."""
        chance = random.Random(85)
        for book in SLOW + close_books(85, 6):
            known = known_sums(chance, book, 3, 60, 50)
            up = walked_heights(book, known, -10, -70, 3300)
            down = walked_heights(book.turned(), turned_known(known), -10, -70, 3300)
            places = range(-10, 3290)
            early, late = early_days(book, known, -10, 3300), late_days(book, known, -10, 3300)
            # Not assertEqual: it would look for the likeness of long lists without end.
            self.assertTrue(early == [up[place + 1] - up[place] for place in places])
            self.assertTrue(late == [down[place] - down[place + 1] for place in places])
            for day in (0, 7, 1559, 1560, 1599, 1600, 3200):
                self.assertEqual(early_day(book, known, -10, day - 10), early[day])
                self.assertEqual(late_day(book, known, -10, day - 10), late[day])

    def test_turned_moved_scaled(self):
        chance = random.Random(86)
        for book, known in cases(86, 6):
            begin = chance.randint(-70, 70)
            early, late = early_days(book, known, begin, 90), late_days(book, known, begin, 90)
            turned, others = book.turned(), turned_known(known)
            self.assertEqual(early_days(turned, others, begin, 90), [-day for day in late])
            self.assertEqual(late_days(turned, others, begin, 90), [-day for day in early])
            self.assertEqual(early_day(turned, others, begin, begin + 40), -late[40])
            for by in (1, -77, FAR, -FAR):
                self.assertEqual(early_days(book, moved(known, by), begin + by, 90), early)
                self.assertEqual(late_days(book, moved(known, by), begin + by, 90), late)
            great = book.scaled(10 ** 35, -10 ** 33)
            greater = [(start, length, total * 10 ** 35 - 10 ** 33 * length) for start, length, total in known]
            self.assertEqual(early_days(great, greater, begin, 90), [day * 10 ** 35 - 10 ** 33 for day in early])
            self.assertEqual(late_day(great, greater, begin, begin + 55), late[55] * 10 ** 35 - 10 ** 33)

    def test_by_name(self):
        known = [(2, 1, 1)]
        self.assertEqual(early_days(length=5, begin=0, known=known, book=BOTH), [0, 0, 1, 0, 0])
        self.assertEqual(late_days(length=5, begin=3, known=known, book=BOTH), [0, 0, 0, 1, 0])
        self.assertEqual(early_day(day=2, begin=0, known=known, book=BOTH), 1)
        self.assertEqual(late_day(day=2, begin=0, known=known, book=BOTH), 1)

    def test_errors(self):
        for call, bad, fine, error in ((early_day, -1, 3, InvalidDay), (late_day, -FAR, 0, InvalidDay),
                                       (early_days, -1, 3, InvalidLength), (late_days, -FAR, 0, InvalidLength)):
            for last in (bad, fine):
                for known, number in WRONG_KNOWN:
                    self.assertEqual(caught(call, BOTH, known, 0, last), (InvalidKnown, number))
                    self.assertEqual(caught(call, EMPTY, known, 0, last), (NoRows, (1, 2)))
                self.assertEqual(caught(call, BOTH, WRONG, 0, last), (Contradiction, 1))
                self.assertEqual(caught(call, OTHER_EMPTY, WRONG, 0, last), (NoRows, (0, 1)))
            self.assertEqual(caught(call, BOTH, WRONG[:1], 0, bad), (error, bad))
            self.assertIsNone(caught(call, BOTH, WRONG[:1], 0, fine))
        for call in (early_day, late_day):
            for begin, day in ((5, 4), (FAR, 0), (0, -1), (-3, -FAR)):
                self.assertEqual(caught(call, BOTH, [], begin, day), (InvalidDay, day))
            self.assertIsNone(caught(call, BOTH, [], -3, -3))


class PlaceTest(unittest.TestCase):

    def check(self, book, known, begin, total, day):
        passed = list(known)
        self.assertEqual(early_place(book, passed, begin, total), day, (book.rules, known, begin, total))
        self.assertEqual(passed, known)

    def test_told(self):
        for total in (1, 2, 3, 4, 100, 10 ** 29, FAR):
            self.check(BOTH, [], 0, total, 3 * (total - 1))
            self.check(BOTH, [], -FAR, total, 3 * (total - 1) - FAR)
            self.check(PLANT, [], 5, total, 4 + total)
            self.check(Book(0, 7, []), [], 0, total, -(-total // 7) - 1)
            self.check(Book(0, 1, [(7, 2, 2)]), [], 0, total, (total - 1) // 2 * 7 + (total - 1) % 2)
        self.check(BOTH, [(2, 1, 1)], 0, 1, 2)
        self.check(BOTH, [(2, 1, 1)], 0, 2, 5)
        self.check(FREE, [(0, FAR, 4)], 0, 4, 3)
        self.check(FREE, [(0, FAR, 4)], 0, 5, FAR)
        self.check(FREE, [(0, FAR, 4)], 0, FAR, 2 * FAR - 5)
        self.check(FREE, [(0, FAR, 4)], -2, 6, 3)
        self.check(FREE, [(0, FAR, 4)], FAR - 3, 5, FAR + 1)

    def test_never(self):
        for book in (Book(0, 0, []), Book(0, 9, [(3, 0, 0)]), Book(0, 9, [(2, 0, 5), (40, -3, 0)]),
                     Book(0, 0, [(5, -2, 7)])):
            for known in ([], [(0, 3, 0)], [(-7, 40, 0), (FAR, FAR, 0)]):
                for total in (1, 2, FAR):
                    self.check(book, known, 0, total, None)
                    self.check(book, known, -FAR, total, None)
                self.assertEqual(early_days(book, known, -5, 60), [0] * 60)

    def test_late_but_not_never(self):
        """Days that are 0 mostly, and 0 as far as sums are known."""
        book = Book(0, 3, [(40, 0, 1)])
        for total in (1, 2, 77, FAR):
            self.check(book, [], 0, total, 40 * (total - 1))
            self.check(book, [(0, 7, 0)], 0, total, 7 + 40 * (total - 1))
            self.check(book, [(0, 7, 1)], 0, total, 40 * (total - 1))
            self.check(book, [(0, 70, 1)], 0, total, 40 * total - 40 if total == 1 else 70 + 40 * (total - 2))
            self.check(book, [(0, FAR, 0)], 0, total, FAR + 40 * (total - 1))
            self.check(book, [(0, FAR, 2)], 0, total, 0 if total == 1 else 40 if total == 2 else FAR + 40 * total - 120)

    def test_against_days(self):
        chance = random.Random(90)
        books = limit_books(90, 25, lowest=0) + limit_books(91, 25, rules=3, widest=9, lowest=0)
        books += [book for book in SLOW + close_books(92, 25) if book.low >= 0]
        books += [Book(0, book.high, book.rules) for book in limit_books(93, 60) if book.high >= 0 and
                  Book(0, book.high, book.rules).has_rows()]
        self.assertGreater(len(books), 80)
        for book in books:
            for spread, longest in ((60, 50), (FAR, FAR)):
                known = known_sums(chance, book, chance.choice([0, 1, 4, 12]), spread, longest)
                begin = chance.choice([chance.randint(-spread, spread)] + [row[0] - 5 for row in known])
                told, total = early_days(book, known, begin, 150), 0
                for day, value in enumerate(told):
                    if value and (day < 12 or day % 15 == 0):
                        self.check(book, known, begin, total + 1, begin + day)
                        self.check(book, known, begin, total + value, begin + day)
                    total += value

    def test_far_totals(self):
        chance = random.Random(94)
        for book in limit_books(94, 25, lowest=0) + [book for book in SLOW if book.low >= 0]:
            for spread, longest in ((60, 50), (1600, 1600), (FAR, FAR)):
                known = known_sums(chance, book, chance.choice([1, 4, 12]), spread, longest)
                begin = chance.randint(-spread, spread)
                for total in (1, 1000, 10 ** 6 + 1, 10 ** 29, FAR):
                    day = early_place(book, known, begin, total)
                    if day is None:
                        self.assertEqual(early_days(book, known, begin, 50), [0] * 50)
                    else:
                        self.assertLess(sure_sums(book, known, begin, day - begin)[1], total)
                        self.assertGreaterEqual(sure_sums(book, known, begin, day + 1 - begin)[1], total)

    def test_errors(self):
        below = Book(-1, 1, [(3, 0, 1)])
        for total in (3, 0, -FAR):
            for known, number in WRONG_KNOWN:
                self.assertEqual(caught(early_place, BOTH, known, 0, total), (InvalidKnown, number))
                self.assertEqual(caught(early_place, below, known, 0, total), (InvalidDays, (-1, 1)))
                self.assertEqual(caught(early_place, EMPTY, known, 0, total), (NoRows, (1, 2)))
                self.assertEqual(caught(early_place, EMPTY.turned(), known, 0, total), (NoRows, (2, 1)))
            self.assertEqual(caught(early_place, BOTH, WRONG, 0, total), (Contradiction, 1))
            self.assertEqual(caught(early_place, below, WRONG, 0, total), (InvalidDays, (-1, 1)))
        for total in (0, -1, -FAR):
            for book in (BOTH, Book(0, 0, [])):
                self.assertEqual(caught(early_place, book, [], 7, total), (InvalidNumber, total))
        self.assertIsNone(caught(early_place, below.scaled(1, 1), [], 0, 1))
        self.assertEqual(early_place(total=4, begin=0, known=[], book=BOTH), 9)


if __name__ == "__main__":
    unittest.main()
