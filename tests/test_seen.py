"""Promises 4 and 7: which lists of days stand, the first day that is lost, and the days that can follow."""

import itertools
import random
import unittest

from everyspan.books import Book
from everyspan.early import early_days, late_days
from everyspan.errors import NoRows
from everyspan.known import first_wrong, sure_sums
from everyspan.seen import first_lost, next_days, stands
from everyspan.spans import greatest_sum, least_sum
from tests.helper import close_books, keeps_rules, known_sums, limit_books, small_books, tried_rows, walked_sums
from tests.test_books import EMPTY, caught
from tests.test_known import BOTH, FREE, OTHER_EMPTY, PLANT
from tests.test_spans import SLOW


def told_by_pairs(book, walked, days):
    """What first_lost and next_days tell, by the sums of all parts of a list; walked are the greatest sums."""
    heights = [0]
    for index, day in enumerate(days):
        heights.append(heights[-1] + day)
        for start in range(index + 1):
            total, length = heights[-1] - heights[start], index + 1 - start
            if not -walked[-length] <= total <= walked[length]:
                return index, None
    many = len(heights)
    low = max(height - heights[-1] - walked[at - many] for at, height in enumerate(heights))
    high = min(height - heights[-1] + walked[many - at] for at, height in enumerate(heights))
    return None, (low, high)


class SeenTest(unittest.TestCase):

    def check(self, book, days, lost, following):
        passed = list(days)
        self.assertEqual(first_lost(book, passed), lost, (book.low, book.high, book.rules, days))
        self.assertIs(stands(book, passed), lost is None)
        self.assertEqual(next_days(book, passed), following, (book.low, book.high, book.rules, days))
        self.assertEqual(passed, days)

    def test_empty_list(self):
        self.check(PLANT, [], None, (0, 1))
        self.check(Book(-20, 20, [(2, 5, 5), (3, 7, 8)]), [], None, (2, 3))
        for book in limit_books(100, 20) + SLOW:
            self.check(book, [], None, (least_sum(book, 1), greatest_sum(book, 1)))

    def test_told(self):
        self.check(BOTH, [1, 1], 1, None)
        self.check(BOTH, [0, 0, 0, 1], None, (0, 0))
        self.check(BOTH, [0, 0, 0, 0], 3, None)
        self.check(BOTH, [0, 0, 0], None, (1, 1))
        self.check(BOTH, [0, 0, 1, 0], None, (0, 0))
        self.check(BOTH, [0, 0, 1, 0, 0], None, (0, 1))
        self.check(BOTH, [0, 0, 1, 0, 0, 0], None, (1, 1))
        self.check(PLANT, [0, 0, 0, 0, 0], None, (1, 1))
        self.check(PLANT, [1, 0, 0, 0, 0], None, (0, 1))
        self.check(PLANT, [1, 0, 0, 0, 0, 0], None, (1, 1))
        self.check(PLANT, [0, 0, 0, 0, 0, 0], 5, None)
        self.check(FREE, [0, 1, 1, 0] * 30, None, (0, 1))

    def test_beyond_low_and_high(self):
        for days, lost in (([2], 0), ([-1], 0), ([1, 0, 0, 5], 3), ([0, 0, -7, 9], 2), ([10 ** 30], 0),
                           ([0, -10 ** 30], 1)):
            self.check(BOTH, days, lost, None)
        self.check(Book(-20, 20, [(2, 5, 5), (3, 7, 8)]), [1], 0, None)
        self.check(Book(-20, 20, [(2, 5, 5), (3, 7, 8)]), [2, 3, 2], None, (3, 3))

    def test_rules_kept_within_and_yet_no_row(self):
        """The days force what cannot be, behind the list or ahead of it."""
        for book, days, lost in ((BOTH, [0, 0, 0, 0], 3), (Book(0, 1, [(4, 2, 2), (5, 2, 3)]), [1, 1, 1], 2),
                                 (Book(0, 9, [(3, 5, 9)]), [8, 2], 1), (Book(0, 9, [(3, 5, 9)]), [8, 1], None)):
            self.assertTrue(keeps_rules(days, book.rules + [(1, book.low, book.high)]))
            self.assertEqual(first_lost(book, days), lost)
            self.assertEqual(first_lost(book, days[::-1]) is None, lost is None)
        found = 0
        for book in small_books(101, 300):
            if book.has_rows():
                rows = {row[:3] for row in tried_rows(book, 4, 4)}
                for days in itertools.product(range(book.low, book.high + 1), repeat=3):
                    if keeps_rules(days, book.rules) and days not in rows:
                        self.assertIs(stands(book, list(days)), False)
                        found += 1
        self.assertGreater(found, 100)

    def test_against_all_lists(self):
        chance = random.Random(102)
        for book in small_books(103, 250):
            if not book.has_rows():
                continue
            rows = tried_rows(book, 4, 7)
            found = {row[:many] for row in rows for many in range(8)}
            tried = [days for many in range(4) for days in
                     itertools.product(range(book.low - 1, book.high + 2), repeat=many)]
            for _ in range(20):
                row = list(chance.choice(rows))
                tried.append(tuple(row[:6]))
                row[chance.randrange(7)] += chance.choice([-1, 1])
                tried.append(tuple(row[:6]))
            for days in tried:
                lost = [index for index in range(len(days)) if days[:index + 1] not in found]
                following = [day for day in range(book.low, book.high + 1) if days + (day,) in found]
                if lost:
                    self.check(book, list(days), lost[0], None)
                else:
                    self.assertEqual(following, list(range(following[0], following[-1] + 1)))
                    self.check(book, list(days), None, (following[0], following[-1]))

    def test_rows_of_books_at_the_limits(self):
        """Early, late and even rows, from anywhere on, and with one day changed."""
        chance = random.Random(104)
        lost = 0
        for book in limit_books(104, 25) + close_books(105, 15) + SLOW + limit_books(106, 5, rules=8, widest=70):
            walked = walked_sums(book, 151)
            for many in (120, 150):
                known = known_sums(chance, book, 3, 60, 50)
                begin = chance.randint(-90, 20)
                # A share of one kind from low to high, as evenly as can be: what is known from day 0 on.
                total = sum(sure_sums(book, [], 0, 10 ** 4)) // 2
                even = [(0, 10 ** 4, total)]
                for days in (early_days(book, known, begin, many), late_days(book, known, begin, many),
                             early_days(book, even, 4000, many)):
                    following = told_by_pairs(book, walked, days)
                    self.assertIsNone(following[0])
                    self.check(book, days, None, following[1])
                    changed = list(days)
                    changed[chance.randrange(many)] += chance.choice([-2, -1, 1, 2])
                    told = told_by_pairs(book, walked, changed)
                    self.check(book, changed, told[0], told[1])
                    lost += told[0] is not None
        self.assertGreater(lost, 100)

    def test_next_days_one_by_one(self):
        """Lists that are built by next days stand, and one beyond either end is lost at once."""
        chance = random.Random(107)
        for book in limit_books(107, 10) + SLOW:
            days = []
            for _ in range(60):
                low, high = next_days(book, days)
                self.assertLessEqual(low, high)
                for day in (low - 1, high + 1):
                    self.assertEqual(first_lost(book, days + [day]), len(days))
                for day in (low, high):
                    self.assertIs(stands(book, days + [day]), True)
                days.append(chance.choice([low, high, chance.randint(low, high)]))

    def test_as_known_sums(self):
        chance = random.Random(108)
        for book in limit_books(108, 20) + SLOW:
            days = early_days(book, [], 0, 30)
            days[chance.randrange(30)] -= chance.choice([0, 1, 2])
            known = [(index, 1, day) for index, day in enumerate(days)]
            self.assertEqual(first_lost(book, days), first_wrong(book, known))
            if stands(book, days):
                self.assertEqual(next_days(book, days), sure_sums(book, known, 30, 1))

    def test_turned_and_scaled(self):
        chance = random.Random(109)
        for book in limit_books(109, 15):
            days = late_days(book, [], 0, 50)
            for _ in range(3):
                lost, following = first_lost(book, days), next_days(book, days)
                turned = None if following is None else (-following[1], -following[0])
                self.check(book.turned(), [-day for day in days], lost, turned)
                great = None if following is None else tuple(day * 10 ** 35 - 10 ** 33 for day in following)
                self.check(book.scaled(10 ** 35, -10 ** 33), [day * 10 ** 35 - 10 ** 33 for day in days], lost, great)
                days[chance.randrange(50)] += 1

    def test_turned_lists(self):
        """A list stands exactly if the list with its days in the other sequence does."""
        chance = random.Random(110)
        for book in limit_books(110, 15):
            days = late_days(book, [], 0, 60)
            for _ in range(5):
                self.assertIs(stands(book, days), stands(book, days[::-1]))
                days[chance.randrange(60)] += chance.choice([-1, 1])

    def test_by_name(self):
        self.assertEqual(first_lost(days=[1, 1], book=BOTH), 1)
        self.assertIs(stands(days=[1, 1], book=BOTH), False)
        self.assertEqual(next_days(days=[1], book=BOTH), (0, 0))
        self.assertIsInstance(next_days(BOTH, [1]), tuple)

    def test_errors(self):
        for call in (stands, first_lost, next_days):
            for days in ([], [0], [7, 7]):
                self.assertEqual(caught(call, EMPTY, days), (NoRows, (1, 2)))
                self.assertEqual(caught(call, OTHER_EMPTY, days), (NoRows, (0, 1)))


if __name__ == "__main__":
    unittest.main()
