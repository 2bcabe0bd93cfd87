"""Promises 2 to 5 and 7: books, their check, their turned and scaled ones, their conflicts."""

import unittest

from everyspan.books import Book
from everyspan.errors import InvalidDays, InvalidNumber, InvalidRule, NoRows, SpanError
from everyspan.spans import greatest_sum, least_sum
from tests.helper import limit_books, live_windows, small_books, tried_conflict

EMPTY = Book(0, 1, [(7, 3, 7), (3, 0, 1)])


def caught(call, *args, **more):
    """The class and the value of the error of a call."""
    try:
        call(*args, **more)
    except SpanError as error:
        return type(error), error.value
    return None


class TellingTest(unittest.TestCase):

    def test_parts_are_told(self):
        book = Book(-2, 5, [(7, 2, 7), (3, 0, 1), (7, 2, 7)])
        self.assertEqual((book.low, book.high, book.rules), (-2, 5, [(7, 2, 7), (3, 0, 1), (7, 2, 7)]))
        self.assertEqual((EMPTY.low, EMPTY.high, EMPTY.rules), (0, 1, [(7, 3, 7), (3, 0, 1)]))
        self.assertEqual(Book(4, 4, []).rules, [])

    def test_by_name(self):
        book = Book(rules=[(3, 0, 1)], high=1, low=0)
        self.assertEqual(book, Book(0, 1, [(3, 0, 1)]))
        self.assertEqual(book.scaled(shift=1, factor=2), book.scaled(2, 1))

    def test_parts_cannot_be_assigned(self):
        for name in ("low", "high", "rules"):
            with self.assertRaises(AttributeError):
                setattr(EMPTY, name, 3)

    def test_lists_are_new(self):
        passed = [(7, 2, 7), (3, 0, 1)]
        book = Book(0, 1, passed)
        passed.append((1, 0, 0))
        passed[0] = (7, 7, 7)
        told = book.rules
        self.assertIsInstance(told, list)
        self.assertIsNot(told, book.rules)
        told.pop()
        told.insert(0, (2, 0, 0))
        self.assertEqual(book.rules, [(7, 2, 7), (3, 0, 1)])
        self.assertEqual(greatest_sum(book, 7), 3)

    def test_passed_list_stays(self):
        passed = [(3, 0, 1), (0, 1, 2)]
        self.assertEqual(caught(Book, 0, 1, passed), (InvalidRule, 1))
        self.assertEqual(passed, [(3, 0, 1), (0, 1, 2)])
        passed = [(3, 0, 1)]
        book = Book(0, 1, passed)
        book.turned()
        book.scaled(3, 4)
        greatest_sum(book, 50)
        self.assertEqual(passed, [(3, 0, 1)])

    def test_equal(self):
        book = Book(0, 1, [(7, 2, 7), (3, 0, 1)])
        self.assertTrue(book == Book(0, 1, [(7, 2, 7), (3, 0, 1)]))
        self.assertFalse(book != Book(0, 1, [(7, 2, 7), (3, 0, 1)]))
        self.assertTrue(EMPTY == Book(0, 1, [(7, 3, 7), (3, 0, 1)]))
        for other in (Book(0, 1, [(3, 0, 1), (7, 2, 7)]), Book(0, 2, [(7, 2, 7), (3, 0, 1)]), EMPTY,
                      Book(-1, 1, [(7, 2, 7), (3, 0, 1)]), Book(0, 1, [(7, 2, 7)]), Book(0, 1, []),
                      Book(0, 1, [(7, 2, 7), (3, 0, 1), (3, 0, 1)]), Book(0, 1, [(7, 2, 7), (3, 0, 2)])):
            self.assertFalse(book == other)
            self.assertTrue(book != other)
            self.assertFalse(other == book)

    def test_equal_rows_are_not_equal_books(self):
        self.assertFalse(Book(0, 1, [(2, 0, 2)]) == Book(0, 1, []))

    def test_equal_to_nothing_else(self):
        for book in (Book(0, 1, [(3, 0, 1)]), EMPTY):
            for other in ((0, 1, book.rules), [0, 1, book.rules], 0, 1, None, "0..1; 3: 0..1", "", book.rules):
                self.assertFalse(book == other)
                self.assertTrue(book != other)
                self.assertFalse(other == book)

    def test_asked_book_is_equal_to_a_new_one(self):
        for book in limit_books(1, 10):
            new = Book(book.low, book.high, book.rules)
            for length in (0, 1, 30, 100, 1600, 10 ** 30):
                greatest_sum(book, length)
                least_sum(book, length)
            self.assertTrue(book == new)
            self.assertTrue(new == book)
            self.assertEqual(book.rules, new.rules)


class CheckTest(unittest.TestCase):

    def test_days(self):
        self.assertEqual(caught(Book, 1, 0, []), (InvalidDays, (1, 0)))
        self.assertEqual(caught(Book, -3, -4, [(2, -9, 9)]), (InvalidDays, (-3, -4)))
        self.assertIsNone(caught(Book, 0, 0, []))

    def test_rules(self):
        self.assertEqual(caught(Book, 0, 1, [(0, 0, 1)]), (InvalidRule, 0))
        self.assertEqual(caught(Book, 0, 1, [(-2, 0, 1)]), (InvalidRule, 0))
        self.assertEqual(caught(Book, 0, 1, [(1, 0, 1), (2, 2, 1)]), (InvalidRule, 1))
        self.assertEqual(caught(Book, 0, 1, [(1, 0, 1), (2, 1, 1), (40, 3, 2)]), (InvalidRule, 2))
        self.assertIsNone(caught(Book, 0, 1, [(1, 0, 0), (1, 1, 1)]))

    def test_first_wrong_thing(self):
        self.assertEqual(caught(Book, 2, 1, [(0, 2, 1)]), (InvalidDays, (2, 1)))
        self.assertEqual(caught(Book, 0, 1, [(3, 5, 4), (0, 0, 0)]), (InvalidRule, 0))
        self.assertEqual(caught(Book, 0, 1, [(3, 4, 5), (0, 1, 0), (1, 1, 0)]), (InvalidRule, 1))

    def test_books_without_rows_are_books(self):
        self.assertIsNone(caught(Book, 0, 1, [(2, 9, 10)]))
        self.assertIsNone(caught(Book, 0, 1, [(7, 3, 7), (3, 0, 1)]))


class TurnedTest(unittest.TestCase):

    def test_turned(self):
        book = Book(-2, 5, [(7, 2, 7), (3, 0, 1), (4, -3, -3)])
        self.assertEqual(book.turned(), Book(-5, 2, [(7, -7, -2), (3, -1, 0), (4, 3, 3)]))
        self.assertEqual(EMPTY.turned(), Book(-1, 0, [(7, -7, -3), (3, -1, 0)]))

    def test_twice_turned(self):
        for book in small_books(2, 100) + limit_books(3, 10) + [EMPTY]:
            self.assertEqual(book.turned().turned(), book)
            self.assertEqual(book.turned().has_rows(), book.has_rows())

    def test_scaled(self):
        book = Book(-2, 5, [(7, 2, 7), (3, 0, 1)])
        self.assertEqual(book.scaled(3, 4), Book(-2, 19, [(7, 34, 49), (3, 12, 15)]))
        self.assertEqual(book.scaled(1, -4), Book(-6, 1, [(7, -26, -21), (3, -12, -11)]))
        self.assertEqual(EMPTY.scaled(2, -1), Book(-1, 1, [(7, -1, 7), (3, -3, -1)]))
        great = 10 ** 30
        self.assertEqual(book.scaled(great, -great), Book(-3 * great, 4 * great, [(7, -5 * great, 0),
                                                                                  (3, -3 * great, -2 * great)]))

    def test_scaled_by_one(self):
        for book in small_books(4, 100) + [EMPTY]:
            self.assertEqual(book.scaled(1, 0), book)
            self.assertEqual(book.scaled(6, 5).scaled(1, -5), book.scaled(6, 0))
            self.assertEqual(book.scaled(6, 5).conflict(), book.conflict())

    def test_new_books(self):
        book = Book(0, 1, [(3, 0, 1)])
        self.assertIsNot(book.turned(), book)
        book.scaled(5, 5)
        book.turned()
        self.assertEqual(book, Book(0, 1, [(3, 0, 1)]))

    def test_wrong_factors(self):
        for book in (Book(0, 1, [(3, 0, 1)]), EMPTY):
            for factor in (0, -1, -10 ** 30):
                self.assertEqual(caught(book.scaled, factor, 3), (InvalidNumber, factor))
                self.assertEqual(caught(book.scaled, shift=3, factor=factor), (InvalidNumber, factor))


class ConflictTest(unittest.TestCase):

    def test_told(self):
        self.assertEqual(EMPTY.conflict(), (1, 2))
        self.assertIs(EMPTY.has_rows(), False)
        book = Book(0, 1, [(7, 2, 7), (3, 0, 1)])
        self.assertIsNone(book.conflict())
        self.assertIs(book.has_rows(), True)
        self.assertIsNone(Book(3, 3, []).conflict())

    def test_days_are_bound_0(self):
        self.assertEqual(Book(1, 2, [(3, 0, 2)]).conflict(), (0, 1))
        self.assertEqual(Book(1, 2, [(3, 7, 9)]).conflict(), (1, 0))
        self.assertEqual(Book(1, 2, [(3, 7, 9), (2, 0, 1)]).conflict(), (0, 2))
        self.assertIsNone(Book(1, 2, [(3, 0, 3)]).conflict())
        self.assertIsNone(Book(1, 2, [(3, 6, 9)]).conflict())

    def test_first_of_several(self):
        self.assertEqual(Book(0, 9, [(2, 5, 9), (5, 0, 12), (7, 0, 1), (3, 9, 20)]).conflict(), (1, 2))
        self.assertEqual(Book(0, 9, [(5, 0, 12), (7, 0, 1), (3, 1, 20), (2, 5, 9)]).conflict(), (3, 2))

    def test_against_all_pairs_and_all_lists(self):
        without = 0
        for book in small_books(5, 400):
            conflict = tried_conflict(book)
            self.assertEqual(book.conflict(), conflict)
            self.assertIs(book.has_rows(), conflict is None)
            self.assertEqual(book.has_rows(), bool(live_windows(book, 4)))
            without += conflict is not None
        self.assertTrue(80 < without < 320)

    def test_great_values(self):
        for book in small_books(6, 100):
            great = book.scaled(10 ** 40, 10 ** 39)
            self.assertEqual(great.conflict(), book.conflict())
        self.assertEqual(Book(0, 10 ** 30, [(3, 10 ** 30, 10 ** 30), (2, 0, 666666666666666666666666666666)]).conflict(),
                         (1, 2))

    def test_asking_rows(self):
        for name, call in (("greatest", greatest_sum), ("least", least_sum)):
            self.assertEqual(caught(call, EMPTY, 3), (NoRows, (1, 2)), name)


if __name__ == "__main__":
    unittest.main()
