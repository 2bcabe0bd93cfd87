"""Promises 2 to 5 and 7: the greatest and the least sums, the shares, and their errors."""

import unittest
from fractions import Fraction

from everyspan.books import Book
from everyspan.errors import InvalidLength, NoRows
from everyspan.spans import greatest_sum, least_sum, shares
from tests.helper import bounds_of, halved_sums, limit_books, small_books, tried_sums, walked_sums
from tests.test_books import EMPTY, caught

FAR = (10 ** 30, 10 ** 30 - 1, 10 ** 30 - 37, 10 ** 29 + 11, 123456789012345678901234567890, 10 ** 6 + 1)

# Strict rules whose widths have no common factor, nearly alike: many of them are needed before lengths repeat.
SLOW = [Book(-20, 20, [(39, -700, 0), (40, -700, 1)]), Book(0, 1, [(39, 0, 13), (40, 0, 14), (38, 12, 38)]),
        Book(-20, 20, [(37, -700, 1), (40, -700, 2), (39, -700, 3), (2, -30, 5)]),
        Book(-20, 20, [(40, 3, 700), (39, 4, 700), (31, -5, 600), (29, -3, 500), (3, -5, 50)]),
        Book(0, 5, [(40, 80, 81), (39, 77, 79), (37, 73, 75), (2, 3, 6), (13, 24, 28), (17, 30, 36)])]


class SumsTest(unittest.TestCase):

    def check(self, book, length, least, greatest):
        self.assertEqual(least_sum(book, length), least, (book.low, book.high, book.rules, length))
        self.assertEqual(greatest_sum(book, length), greatest, (book.low, book.high, book.rules, length))

    def test_length_0(self):
        for book in [Book(3, 4, []), Book(-4, -3, [(2, -7, -7)])] + limit_books(10, 20):
            self.check(book, 0, 0, 0)

    def test_no_rule(self):
        for length in (0, 1, 2, 40, 1600, 10 ** 30):
            self.check(Book(-20, 7, []), length, -20 * length, 7 * length)
            self.check(Book(0, 0, []), length, 0, 0)

    def test_one_rule(self):
        book = Book(0, 1, [(7, 2, 7)])
        for length in list(range(60)) + list(FAR):
            self.check(book, length, length // 7 * 2 + max(length % 7 - 5, 0), length)
        book = Book(0, 1, [(3, 0, 1)])
        for length in list(range(60)) + list(FAR):
            self.check(book, length, 0, -(-length // 3))

    def test_rules_of_one_day(self):
        book = Book(-20, 20, [(1, -3, 9), (1, -5, 4), (2, -9, 7)])
        for length in list(range(20)) + list(FAR):
            self.check(book, length, -3 * length, length // 2 * 7 + length % 2 * 4)

    def test_rules_work_together(self):
        both = Book(0, 1, [(7, 2, 7), (3, 0, 1)])
        self.check(both, 4, 1, 2)
        self.check(both, 2, 0, 1)
        self.check(both, 5, 1, 2)
        self.check(both, 8, 2, 3)

    def test_days_are_bounded_more_narrowly(self):
        self.check(Book(-20, 20, [(2, 5, 5), (3, 7, 8)]), 1, 2, 3)
        self.check(Book(-20, 20, [(5, 0, 0), (6, 0, 1)]), 1, 0, 0)
        self.check(Book(-20, 20, [(5, 3, 3), (6, 3, 4)]), 1, 0, 1)
        self.check(Book(-20, 20, [(5, 3, 3), (6, 3, 4)]), 2, 0, 2)

    def test_same_rule_twice(self):
        once, twice = Book(0, 3, [(5, 4, 6)]), Book(0, 3, [(5, 4, 6), (5, 4, 6)])
        parts = Book(0, 3, [(5, 0, 6), (5, 4, 99)])
        for length in list(range(30)) + list(FAR):
            self.check(twice, length, least_sum(once, length), greatest_sum(once, length))
            self.check(parts, length, least_sum(once, length), greatest_sum(once, length))

    def test_least_and_most_alike(self):
        book = Book(0, 1, [(7, 3, 3)])
        for length in list(range(60)) + list(FAR):
            rest = length % 7
            self.check(book, length, length // 7 * 3 + max(rest - 4, 0), length // 7 * 3 + min(rest, 3))
        self.check(Book(-20, 20, [(40, 13, 13), (39, 12, 14)]), 1, -1, 1)

    def test_against_all_lists(self):
        for book in small_books(11, 400) + small_books(12, 60, rules=6, widest=5, spread=1):
            size = max([1] + [width for width, _, _ in book.rules])
            told = tried_sums(book, size, 24)
            if told is None:
                self.assertEqual(caught(greatest_sum, book, 3), (NoRows, book.conflict()))
            else:
                for length, (least, greatest) in enumerate(told):
                    self.check(book, length, least, greatest)

    def test_against_walks(self):
        for book in limit_books(13, 60):
            walked = walked_sums(book, 250)
            for length in range(251):
                self.check(book, length, -walked[-length], walked[length])

    def test_around_products_of_widths(self):
        for book in SLOW + limit_books(14, 6):
            walked = walked_sums(book, 1700)
            for length in list(range(0, 1701, 13)) + list(range(1540, 1640)):
                self.check(book, length, -walked[-length], walked[length])

    def test_order_of_asking(self):
        for book in SLOW:
            lengths = [1600, 41, 10 ** 30, 700, 1200, 3, 10 ** 6, 1559, 1560]
            told = {length: greatest_sum(Book(book.low, book.high, book.rules), length) for length in lengths}
            for turn in (lengths, lengths[::-1]):
                asked = Book(book.low, book.high, book.rules)
                self.assertEqual([greatest_sum(asked, length) for length in turn], [told[length] for length in turn])

    def test_far_lengths(self):
        for book in SLOW + limit_books(15, 15):
            walked = walked_sums(book, 1800)
            most, wide = min(((Fraction(b[2], b[0]), b[0]) for b in bounds_of(book)))
            least, thick = max(((Fraction(b[1], b[0]), b[0]) for b in bounds_of(book)))
            for length in FAR:
                near, close = 1700 + (length - 1700) % wide, 1700 + (length - 1700) % thick
                self.check(book, length, -walked[-close] + least * (length - close),
                           walked[near] + most * (length - near))

    def test_far_lengths_by_halves(self):
        for book in small_books(16, 40, rules=4, widest=6, spread=3):
            if book.has_rows():
                self.check(book, 10 ** 30 - 5, *halved_sums(book, 10 ** 30 - 5))

    def test_a_strictest_width_apart(self):
        for book in limit_books(17, 30) + SLOW:
            most, wide = min(((Fraction(b[2], b[0]), b[0]) for b in bounds_of(book)))
            for length in (1700, 10 ** 9, 10 ** 30):
                self.assertEqual(greatest_sum(book, length + wide), greatest_sum(book, length) + most * wide)
            for length in range(120):
                self.assertLessEqual(greatest_sum(book, length + wide), greatest_sum(book, length) + most * wide)

    def test_turned(self):
        for book in limit_books(18, 30) + SLOW:
            turned = book.turned()
            for length in (0, 1, 2, 17, 40, 90, 1555, 1600, 10 ** 30):
                self.check(turned, length, -greatest_sum(book, length), -least_sum(book, length))

    def test_scaled(self):
        for book in limit_books(19, 20) + SLOW:
            for factor, shift in ((1, -3), (7, 0), (10 ** 30, -10 ** 30), (3 ** 90, 10 ** 40), (2, 5)):
                scaled = book.scaled(factor, shift)
                for length in (0, 1, 2, 17, 40, 90, 1555, 10 ** 30):
                    self.check(scaled, length, factor * least_sum(book, length) + shift * length,
                               factor * greatest_sum(book, length) + shift * length)

    def test_beyond_the_limits(self):
        for book in limit_books(20, 5, rules=12, widest=90):
            walked = walked_sums(book, 300)
            for length in range(0, 301, 3):
                self.check(book, length, -walked[-length], walked[length])
        self.check(Book(0, 1, [(300, 100, 100)]), 299, 99, 100)

    def test_books_by_turns(self):
        books = limit_books(21, 8)
        lengths = (5, 39, 10 ** 30, 77, 1500)
        alone = [[greatest_sum(Book(b.low, b.high, b.rules), length) for length in lengths] for b in books]
        turns = [[greatest_sum(book, length) for book in books] for length in lengths]
        self.assertEqual([list(column) for column in zip(*turns)], alone)

    def test_by_name_and_exact(self):
        book = Book(0, 1, [(7, 2, 7)])
        self.assertEqual(greatest_sum(length=10, book=book), 10)
        self.assertEqual(least_sum(length=10, book=book), 2)
        for length in (0, 5, 100, 10 ** 30):
            self.assertIs(type(greatest_sum(book, length)), int)
            self.assertIs(type(least_sum(book, length)), int)


class SharesTest(unittest.TestCase):

    def test_told(self):
        self.assertEqual(shares(Book(0, 1, [(7, 2, 7), (3, 0, 1)])), ((2, 7), (1, 3)))
        self.assertEqual(shares(Book(0, 1, [])), ((0, 1), (1, 1)))
        self.assertEqual(shares(Book(-20, 20, [(6, -9, -2), (4, -6, 7)])), ((-3, 2), (-1, 3)))
        self.assertEqual(shares(Book(-2, 9, [(6, -12, 54)])), ((-2, 1), (9, 1)))
        self.assertEqual(shares(Book(-2, 9, [(40, 0, 0)])), ((0, 1), (0, 1)))
        self.assertEqual(shares(book=Book(0, 5, [(8, 6, 10)])), ((3, 4), (5, 4)))

    def test_over_all_bounds(self):
        for book in small_books(22, 200) + limit_books(23, 100):
            if book.has_rows():
                least = max(Fraction(b[1], b[0]) for b in bounds_of(book))
                most = min(Fraction(b[2], b[0]) for b in bounds_of(book))
                told = ((least.numerator, least.denominator), (most.numerator, most.denominator))
                self.assertEqual(shares(book), told)

    def test_great_values(self):
        book = Book(0, 1, [(6, 2, 3)]).scaled(10 ** 40, 0)
        self.assertEqual(shares(book), ((10 ** 40, 3), (10 ** 40 // 2, 1)))


class SpansErrorsTest(unittest.TestCase):

    def test_no_rows(self):
        self.assertEqual(caught(shares, EMPTY), (NoRows, (1, 2)))
        for call in (greatest_sum, least_sum):
            self.assertEqual(caught(call, EMPTY, 0), (NoRows, (1, 2)))
            self.assertEqual(caught(call, EMPTY, 10 ** 30), (NoRows, (1, 2)))

    def test_lengths(self):
        book = Book(0, 1, [(3, 0, 1)])
        for call in (greatest_sum, least_sum):
            for length in (-1, -5, -10 ** 30):
                self.assertEqual(caught(call, book, length), (InvalidLength, length))
                self.assertEqual(caught(call, length=length, book=book), (InvalidLength, length))

    def test_no_rows_first(self):
        for call in (greatest_sum, least_sum):
            self.assertEqual(caught(call, EMPTY, -1), (NoRows, (1, 2)))

    def test_nothing_changes(self):
        book = Book(0, 1, [(7, 2, 7)])
        caught(greatest_sum, book, -3)
        self.assertEqual((least_sum(book, 13), book), (3, Book(0, 1, [(7, 2, 7)])))


if __name__ == "__main__":
    unittest.main()
