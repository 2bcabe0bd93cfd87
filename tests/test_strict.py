"""Promises 4 and 5: how strict a further rule can be."""

import unittest
from fractions import Fraction

from everyspan.books import Book
from everyspan.errors import InvalidLength, NoRows
from everyspan.strict import strictest_least, strictest_most
from tests.helper import bounds_of, close_books, limit_books, live_windows, small_books
from tests.test_books import EMPTY, caught

WIDTHS = list(range(1, 41)) + [97, 1600, 10 ** 9 + 7, 10 ** 30, 10 ** 30 - 1]
OTHER_EMPTY = Book(1, 2, [(3, 0, 2)])


class StrictTest(unittest.TestCase):

    def check_edge(self, book, width):
        """With the strictest rule there are rows, with the next stricter one there are none."""
        least, most = strictest_least(book, width), strictest_most(book, width)
        self.assertIs(type(least), int)
        self.assertIs(type(most), int)
        far = abs(least) + abs(most) + 1
        rules = book.rules
        for rule, rows in (((width, least, far), True), ((width, least + 1, far), False),
                           ((width, -far, most), True), ((width, -far, most - 1), False)):
            self.assertIs(Book(book.low, book.high, rules + [rule]).has_rows(), rows, (book.rules, rule))

    def test_told(self):
        plant = Book(0, 1, [(7, 2, 7)])
        self.assertEqual([strictest_least(plant, width) for width in (1, 2, 7, 10, 10 ** 30)], [1, 2, 7, 10, 10 ** 30])
        self.assertEqual([strictest_most(plant, width) for width in (1, 3, 4, 7, 8, 10)], [1, 1, 2, 2, 3, 3])
        self.assertEqual(strictest_most(plant, 10 ** 30), (2 * 10 ** 30 + 6) // 7)
        worker = Book(0, 1, [(3, 0, 1)])
        self.assertEqual([strictest_least(worker, width) for width in (1, 2, 3, 5, 6)], [0, 0, 1, 1, 2])
        self.assertEqual([strictest_most(worker, width) for width in (1, 2, 3, 10 ** 30)], [0, 0, 0, 0])

    def test_whole_shares(self):
        for book, least, most in ((Book(-3, 5, []), 5, -3), (Book(-9, 9, [(4, -8, 12), (3, -12, 12)]), 3, -2),
                                  (Book(2, 2, []), 2, 2), (Book(-9, 9, [(5, -20, -20)]), -4, -4)):
            for width in WIDTHS:
                self.assertEqual(strictest_least(book, width), least * width)
                self.assertEqual(strictest_most(book, width), most * width)

    def test_negative_values(self):
        book = Book(-20, -1, [(3, -10, -4), (4, -13, -6)])
        self.assertEqual([strictest_least(book, width) for width in (1, 2, 3, 4, 5)], [-2, -3, -5, -6, -8])
        self.assertEqual([strictest_most(book, width) for width in (1, 2, 3, 4, 5)], [-3, -6, -9, -13, -16])

    def test_a_further_rule(self):
        for book in limit_books(50, 40) + close_books(51, 20) + small_books(52, 60):
            if book.has_rows():
                for width in WIDTHS:
                    self.check_edge(book, width)

    def test_by_shares(self):
        for book in limit_books(53, 60):
            most = min(Fraction(b[2], b[0]) for b in bounds_of(book))
            least = max(Fraction(b[1], b[0]) for b in bounds_of(book))
            for width in WIDTHS:
                self.assertEqual(strictest_least(book, width), most * width // 1)
                self.assertEqual(strictest_most(book, width), -(-least * width // 1))

    def test_against_all_lists(self):
        for book in small_books(54, 60, widest=3):
            if book.has_rows():
                for width in range(1, 5):
                    least, most = strictest_least(book, width), strictest_most(book, width)
                    for rule, rows in (((width, least, 99), True), ((width, least + 1, 99), False),
                                       ((width, -99, most), True), ((width, -99, most - 1), False)):
                        found = live_windows(Book(book.low, book.high, book.rules + [rule]), 4)
                        self.assertEqual(bool(found), rows)

    def test_same_with_rules_in_another_sequence(self):
        for book in limit_books(55, 20):
            for other in (book.rules[::-1], book.rules + book.rules[:2]):
                other = Book(book.low, book.high, other)
                for width in WIDTHS:
                    self.assertEqual(strictest_least(book, width), strictest_least(other, width))
                    self.assertEqual(strictest_most(book, width), strictest_most(other, width))

    def test_turned_and_scaled(self):
        for book in limit_books(56, 20):
            great = book.scaled(10 ** 40, 10 ** 38)
            for width in WIDTHS:
                self.assertEqual(strictest_most(book.turned(), width), -strictest_least(book, width))
                self.assertEqual(strictest_least(book.scaled(1, -7), width), strictest_least(book, width) - 7 * width)
                self.check_edge(great, width)

    def test_by_name(self):
        plant = Book(0, 1, [(7, 2, 7)])
        self.assertEqual(strictest_least(width=10, book=plant), 10)
        self.assertEqual(strictest_most(width=10, book=plant), 3)

    def test_errors(self):
        plant = Book(0, 1, [(7, 2, 7)])
        for call in (strictest_least, strictest_most):
            for width in (0, -1, -10 ** 30):
                self.assertEqual(caught(call, plant, width), (InvalidLength, width))
                self.assertEqual(caught(call, EMPTY, width), (NoRows, (1, 2)))
            self.assertEqual(caught(call, EMPTY, 5), (NoRows, (1, 2)))
            self.assertEqual(caught(call, OTHER_EMPTY, 5), (NoRows, (0, 1)))


if __name__ == "__main__":
    unittest.main()
