"""The program is asked many questions in a row; the limits are generous, for slow machines."""

import time
import unittest

from everyspan.books import Book
from everyspan.plain import first_unlike, kept_rules, same_rows
from everyspan.spans import greatest_sum, least_sum
from tests.helper import limit_books
from tests.test_spans import SLOW

PARTS = [(book.low, book.high, book.rules) for book in limit_books(40, 300) + SLOW]


class SpeedTest(unittest.TestCase):

    def check_seconds(self, limit, call):
        start = time.perf_counter()
        call()
        self.assertLess(time.perf_counter() - start, limit)

    def test_new_books(self):
        for length in (10, 45, 700, 1500, 10 ** 30):
            self.check_seconds(2, lambda: [greatest_sum(Book(*parts), length) for parts in PARTS])
            self.check_seconds(2, lambda: [least_sum(Book(*parts), length) for parts in PARTS])

    def test_the_same_books(self):
        books = [Book(*parts) for parts in PARTS]
        lengths = list(range(0, 1600, 40)) + [10 ** 30 - k for k in range(40)]
        self.check_seconds(4, lambda: [greatest_sum(book, length) for book in books for length in lengths])
        self.check_seconds(2, lambda: [least_sum(book, length) for book in books for length in lengths[40:]])

    def test_plain(self):
        self.check_seconds(5, lambda: [kept_rules(Book(*parts)) for parts in PARTS])
        pairs = list(zip(PARTS, PARTS[1:]))
        self.check_seconds(3, lambda: [same_rows(Book(*one), Book(*other)) for one, other in pairs])
        self.check_seconds(3, lambda: [first_unlike(Book(*one), Book(*other)) for one, other in pairs])
        self.check_seconds(3, lambda: [first_unlike(Book(*one), Book(*one)) for one in PARTS])


if __name__ == "__main__":
    unittest.main()
