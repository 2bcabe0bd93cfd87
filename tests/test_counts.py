"""Promises 3 to 5 and 7: how many lists of so many days stand, the list with an index, and the index of a list."""

import itertools
import random
import unittest
from math import comb

from everyspan.books import Book
from everyspan.counts import count_stretches, nth_stretch, stretch_index
from everyspan.early import early_days, late_days
from everyspan.errors import InvalidLength, InvalidNumber, NoRows
from everyspan.seen import stands
from tests.helper import day_books, keeps_rules, tried_lists, walked_count
from tests.test_books import EMPTY, caught
from tests.test_known import BOTH, FREE, OTHER_EMPTY, PLANT

ZERO, ONE = Book(0, 0, [(3, 0, 2), (7, -1, 0)]), Book(1, 1, [(2, 1, 2)])
# Rules that force days around a list: the days within it may keep them, and yet no row has it.
FORCED = [BOTH, Book(0, 1, [(4, 2, 2), (5, 2, 3)]), Book(0, 1, [(7, 3, 3), (5, 2, 3)]),
          Book(0, 1, [(5, 2, 3), (2, 0, 1)]), Book(0, 1, [(7, 3, 4), (4, 1, 3)]),
          Book(0, 1, [(6, 2, 3), (5, 2, 3), (4, 1, 2)])]


def counts_by_sums(width, length):
    """How many lists of 0 to so many days have a one among any so many days, by where their first one is."""
    counts = [2 ** days for days in range(width)]
    while len(counts) <= length:
        counts.append(sum(counts[-width:]))
    return counts


class CountTest(unittest.TestCase):

    def check(self, book, length, many):
        self.assertEqual(count_stretches(book, length), many, (book.low, book.high, book.rules, length))

    def test_length_0(self):
        for book in [PLANT, BOTH, FREE, ZERO, ONE] + FORCED + day_books(200, 50):
            self.check(book, 0, 1)
            self.assertEqual(nth_stretch(book, 0, 0), [])
            self.assertEqual(stretch_index(book, []), 0)

    def test_told(self):
        for length, many in enumerate([1, 2, 3, 4, 5, 6, 7, 8, 9, 10, 12, 14]):
            self.check(BOTH, length, many)
        # A row of ones, of zeros, or of both by turns.
        self.check(Book(0, 1, [(2, 1, 1)]), 60, 2)
        self.check(Book(0, 1, [(4, 4, 4)]), 60, 1)
        self.check(Book(0, 1, [(6, 0, 0)]), 60, 1)

    def test_no_rule(self):
        for length in range(62):
            self.check(FREE, length, 2 ** length)
            self.check(Book(0, 1, [(7, 0, 7), (1, 0, 1), (3, -5, 9)]), length, 2 ** length)

    def test_one_value(self):
        for length in (1, 2, 7, 8, 60):
            for book, value in ((ZERO, 0), (ONE, 1), (Book(0, 0, []), 0), (Book(1, 1, []), 1)):
                self.check(book, length, 1)
                self.assertEqual(nth_stretch(book, length, 0), [value] * length)
                self.assertEqual(stretch_index(book, [value] * length), 0)
                self.assertIsNone(stretch_index(book, [value] * (length - 1) + [1 - value]))

    def test_no_two_ones_side_by_side(self):
        before, many = 1, 1
        for length in range(61):
            self.check(Book(0, 1, [(2, 0, 1)]), length, many)
            before, many = many, before + many

    def test_at_least_one_of_any_so_many(self):
        self.check(Book(0, 1, [(1, 1, 1)]), 60, 1)
        for width in range(2, 8):
            for length, many in enumerate(counts_by_sums(width, 61)):
                self.check(Book(0, 1, [(width, 1, width)]), length, many)

    def test_just_so_many_of_any_so_many(self):
        """Each day is that so many days ahead of it: a list of so many days tells the whole row."""
        for width in range(1, 8):
            for ones in range(width + 1):
                for length in range(61):
                    if length >= width:
                        many = comb(width, ones)
                    else:
                        told = range(max(0, ones - width + length), min(ones, length) + 1)
                        many = sum(comb(length, part) for part in told)
                    self.check(Book(0, 1, [(width, ones, ones)]), length, many)

    def test_against_all_lists(self):
        for book in FORCED + [PLANT, ZERO, ONE] + day_books(201, 150):
            for length in (1, 2, 3, 5, 6, 7, 9):
                rows = tried_lists(book, length)
                self.check(book, length, len(rows))
                self.assertEqual([nth_stretch(book, length, index) for index in range(len(rows))], rows)
                self.assertEqual([stretch_index(book, row) for row in rows], list(range(len(rows))))

    def test_lists_that_do_not_stand(self):
        for book in FORCED + [PLANT] + day_books(202, 60):
            rows = tried_lists(book, 6)
            for days in itertools.product([0, 1], repeat=6):
                if list(days) not in rows:
                    self.assertIsNone(stretch_index(book, list(days)), (book.rules, days))

    def test_rules_kept_within_and_yet_no_row(self):
        for book in FORCED:
            found = 0
            for length in (2, 3, 4, 5, 6):
                for days in itertools.product([0, 1], repeat=length):
                    if keeps_rules(days, book.rules) and not stands(book, list(days)):
                        self.assertIsNone(stretch_index(book, list(days)))
                        found += 1
                self.check(book, length, len(tried_lists(book, length)))
            self.assertGreater(found, 0, book.rules)
        # At most one of any three: four days without leave the seven days around them, on either side, just one.
        self.assertIsNone(stretch_index(BOTH, [0, 0, 0, 0]))

    def test_greater_lengths(self):
        for book in FORCED + [PLANT] + day_books(203, 80):
            for length in (20, 59, 60, 75):
                self.check(book, length, walked_count(book, length))

    def test_0_and_1_exchanged(self):
        for book in day_books(204, 60):
            told = [(width, width - most, width - least) for width, least, most in book.rules]
            other = Book(1 - book.high, 1 - book.low, told)
            for length in (4, 7, 33, 60):
                many = count_stretches(book, length)
                self.check(other, length, many)
                for index in {0, many // 3, many - 1}:
                    days = [1 - day for day in nth_stretch(book, length, index)]
                    self.assertEqual(nth_stretch(other, length, many - 1 - index), days)

    def test_short_lengths_behind_great_ones(self):
        book = Book(0, 1, BOTH.rules)
        self.assertEqual([count_stretches(book, length) for length in (60, 3, 59, 0, 61)],
                         [count_stretches(Book(0, 1, BOTH.rules), length) for length in (60, 3, 59, 0, 61)])

    def test_somewhat_beyond(self):
        """Wider rules, longer lists, and more values of days than the document asks for."""
        self.check(Book(0, 1, [(9, 4, 4)]), 30, comb(9, 4))
        self.check(Book(0, 2, []), 65, 3 ** 65)
        self.check(Book(-1, 1, [(2, 0, 0)]), 65, 3)
        self.assertEqual(nth_stretch(Book(-1, 1, [(2, 0, 0)]), 3, 2), [1, -1, 1])
        self.assertEqual(stretch_index(Book(-1, 1, [(2, 0, 0)]), [0, 0, 0]), 1)
        self.check(Book(0, 1, [(40, 1, 40)]), 75, counts_by_sums(40, 75)[75])


class NumberTest(unittest.TestCase):

    def test_told(self):
        self.assertEqual([nth_stretch(BOTH, 3, index) for index in range(4)],
                         [[0, 0, 0], [0, 0, 1], [0, 1, 0], [1, 0, 0]])
        self.assertEqual(nth_stretch(FREE, 60, 5), [0] * 57 + [1, 0, 1])
        self.assertEqual(nth_stretch(FREE, 60, 2 ** 60 - 2), [1] * 59 + [0])
        self.assertEqual(stretch_index(FREE, [1] + [0] * 59), 2 ** 59)

    def test_first_and_last(self):
        for book in FORCED + day_books(205, 60):
            for length in (1, 6, 60):
                many = count_stretches(book, length)
                self.assertEqual(nth_stretch(book, length, 0), late_days(book, [], 0, length))
                self.assertEqual(nth_stretch(book, length, many - 1), early_days(book, [], 0, length))

    def test_lists_of_60_days(self):
        chance = random.Random(206)
        for book in FORCED + [PLANT, FREE] + day_books(207, 60):
            many = count_stretches(book, 60)
            for index in {0, many - 1, chance.randrange(many), chance.randrange(many)}:
                days = nth_stretch(book, 60, index)
                self.assertEqual(len(days), 60)
                self.assertIs(stands(book, days), True)
                passed = list(days)
                self.assertEqual(stretch_index(book, passed), index)
                self.assertEqual(passed, days)
                if index + 1 < many:
                    following = nth_stretch(book, 60, index + 1)
                    self.assertGreater(following, days)
                    self.assertEqual(stretch_index(book, following), index + 1)

    def test_changed_lists(self):
        chance = random.Random(208)
        found = 0
        for book in FORCED + day_books(209, 60):
            for length in (8, 60):
                days = nth_stretch(book, length, chance.randrange(count_stretches(book, length)))
                days[chance.randrange(length)] += chance.choice([-1, 1])
                index = stretch_index(book, days)
                self.assertIs(index is not None, stands(book, days))
                if index is not None:
                    self.assertEqual(nth_stretch(book, length, index), days)
                    found += 1
        self.assertGreater(found, 10)

    def test_beyond_the_days(self):
        for book, days in ((FREE, [2]), (FREE, [-1]), (FREE, [0, 1, 2, 0]), (BOTH, [0, 0, -1]), (ZERO, [1]),
                           (ZERO, [0, 0, -1]), (ONE, [0]), (ONE, [1, 1, 2]), (BOTH, [10 ** 30]), (BOTH, [-10 ** 30]),
                           (FREE, [0] * 59 + [2]), (FREE, [-1] + [0] * 59), (FREE, [-1, 3])):
            self.assertIsNone(stretch_index(book, days))

    def test_new_lists(self):
        told = nth_stretch(BOTH, 20, 7)
        kept = list(told)
        told.clear()
        self.assertEqual(nth_stretch(BOTH, 20, 7), kept)
        self.assertEqual(stretch_index(BOTH, kept), 7)

    def test_kinds(self):
        for length in (0, 1, 60):
            self.assertIs(type(count_stretches(ONE, length)), int)
            self.assertIs(type(nth_stretch(ONE, length, 0)), list)
            self.assertIs(type(stretch_index(ONE, [1] * length)), int)

    def test_by_name(self):
        self.assertEqual(count_stretches(length=3, book=BOTH), 4)
        self.assertEqual(nth_stretch(index=1, length=3, book=BOTH), [0, 0, 1])
        self.assertEqual(stretch_index(days=[1, 0, 0], book=BOTH), 3)


class ErrorsTest(unittest.TestCase):

    def test_no_rows(self):
        for book, conflict in ((EMPTY, (1, 2)), (OTHER_EMPTY, (0, 1))):
            for length in (0, 3, -1):
                self.assertEqual(caught(count_stretches, book, length), (NoRows, conflict))
                for index in (0, -1, 10 ** 30):
                    self.assertEqual(caught(nth_stretch, book, length, index), (NoRows, conflict))
            for days in ([], [0], [7]):
                self.assertEqual(caught(stretch_index, book, days), (NoRows, conflict))

    def test_lengths(self):
        for length in (-1, -60, -10 ** 30):
            self.assertEqual(caught(count_stretches, BOTH, length), (InvalidLength, length))
            for index in (0, -1, 5):
                self.assertEqual(caught(nth_stretch, BOTH, length, index), (InvalidLength, length))

    def test_numbers(self):
        for book in (BOTH, PLANT, FREE, ZERO, ONE):
            for length in (0, 1, 5, 60):
                many = count_stretches(book, length)
                for index in (-1, many, many + 1, -many - 1, 10 ** 30, -10 ** 30):
                    self.assertEqual(caught(nth_stretch, book, length, index), (InvalidNumber, index))
                self.assertIsNone(caught(nth_stretch, book, length, many - 1))


if __name__ == "__main__":
    unittest.main()
