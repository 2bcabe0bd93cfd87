"""Promises 2 to 5: which rules are told, needless and kept, and which books have the same rows."""

import random
import unittest

from everyspan.books import Book
from everyspan.errors import InvalidNumber, InvalidRule, NoRows
from everyspan.plain import first_unlike, is_needless, kept_rules, same_rows, tells
from everyspan.spans import greatest_sum, least_sum
from tests.helper import keeps_rules, limit_books, live_windows, small_books, tried_sums
from tests.test_books import EMPTY, caught

OTHER_EMPTY = Book(1, 2, [(3, 0, 2)])


def books_with_rows(seed, many, **more):
    return [book for book in small_books(seed, many, **more) if book.has_rows()]


def book_pairs(seed, many):
    """Small books two by two: some are alike, some nearly so."""
    chance = random.Random(seed)
    pairs = []
    for book in books_with_rows(seed, many):
        low, high, rules = book.low, book.high, book.rules
        kind = chance.randint(0, 4)
        if kind == 0:
            rules = rules[::-1]
        elif kind == 1:
            width = chance.randint(1, 4)
            rules.append((width, least_sum(book, width), greatest_sum(book, width)))
        elif kind == 2:
            width = chance.randint(1, 4)
            rules.insert(0, (width, least_sum(book, width), max(least_sum(book, width), greatest_sum(book, width) - 1)))
        elif kind == 3 and rules:
            rules.pop(chance.randrange(len(rules)))
        else:
            low, high = least_sum(book, 1), greatest_sum(book, 1)
        other = Book(low, high, rules)
        if other.has_rows():
            pairs.append((book, other))
    return pairs


class TellsTest(unittest.TestCase):

    def test_at_a_bound_and_beyond(self):
        for book in [Book(0, 1, [(7, 2, 7), (3, 0, 1)])] + limit_books(30, 20):
            for width in (1, 2, 3, 7, 39, 40, 41, 80, 1600, 10 ** 30):
                least, most = least_sum(book, width), greatest_sum(book, width)
                self.assertIs(tells(book, (width, least, most)), True)
                self.assertIs(tells(book, (width, least - 1, most + 1)), True)
                self.assertIs(tells(book, (width, least - 10 ** 30, most + 10 ** 30)), True)
                self.assertIs(tells(book, (width, least - 5, most - 1)), False)
                self.assertIs(tells(book, (width, least + 1, most + 5)), False)

    def test_by_several_together(self):
        both = Book(0, 1, [(7, 2, 7), (3, 0, 1)])
        self.assertTrue(tells(both, (4, 1, 2)))
        self.assertFalse(tells(Book(0, 1, [(7, 2, 7)]), (4, 1, 4)))
        self.assertFalse(tells(Book(0, 1, [(3, 0, 1)]), (4, 1, 4)))
        self.assertTrue(tells(Book(-20, 20, [(2, 5, 5), (3, 7, 8)]), (1, 2, 3)))

    def test_whole_numbers_of_widths(self):
        book = Book(0, 1, [(7, 2, 5)])
        for many in (1, 2, 3, 10, 10 ** 29):
            self.assertTrue(tells(book, (7 * many, 2 * many, 5 * many)))
            self.assertFalse(tells(book, (7 * many, 2 * many + 1, 5 * many)))
            self.assertFalse(tells(book, (7 * many, 2 * many, 5 * many - 1)))

    def test_against_all_lists(self):
        chance = random.Random(31)
        found = {True: 0, False: 0}
        for book in books_with_rows(31, 200):
            live = live_windows(book, 5)
            for _ in range(10):
                width = chance.randint(1, 5)
                least = least_sum(book, width) + chance.randint(-1, 1)
                rule = (width, least, max(least, greatest_sum(book, width) + chance.randint(-1, 1)))
                told = all(keeps_rules(row, [rule]) for row in live)
                self.assertIs(tells(book, rule), told)
                found[told] += 1
        self.assertGreater(min(found.values()), 100)

    def test_errors(self):
        book = Book(0, 1, [(7, 2, 7)])
        for rule in ((0, 0, 0), (-3, 0, 1), (2, 1, 0), (0, 1, 0), (-10 ** 30, 5, 4)):
            self.assertEqual(caught(tells, book, rule), (InvalidRule, 0))
            self.assertEqual(caught(tells, rule=rule, book=book), (InvalidRule, 0))
            self.assertEqual(caught(tells, EMPTY, rule), (NoRows, (1, 2)))
        self.assertEqual(caught(tells, EMPTY, (1, 0, 1)), (NoRows, (1, 2)))
        self.assertEqual(caught(tells, OTHER_EMPTY, (1, 0, 1)), (NoRows, (0, 1)))


class NeedlessTest(unittest.TestCase):

    def test_same_rule_twice(self):
        book = Book(0, 1, [(3, 0, 1), (7, 2, 7), (3, 0, 1)])
        self.assertEqual([is_needless(book, number) for number in range(3)], [True, False, True])
        self.assertEqual(kept_rules(book), [(3, 0, 1), (7, 2, 7)])

    def test_told_by_the_days(self):
        book = Book(0, 1, [(7, 0, 7), (1, 0, 1), (2, 0, 1)])
        self.assertEqual([is_needless(book, number) for number in range(3)], [True, True, False])
        self.assertEqual(kept_rules(book), [(2, 0, 1)])

    def test_by_several_together(self):
        book = Book(0, 1, [(4, 1, 2), (7, 2, 7), (3, 0, 1)])
        self.assertEqual([is_needless(book, number) for number in range(3)], [True, False, False])
        self.assertEqual(kept_rules(book), [(7, 2, 7), (3, 0, 1)])

    def test_from_the_last_one(self):
        book = Book(0, 9, [(4, 2, 6), (2, 1, 3), (2, 1, 3), (6, 3, 9)])
        self.assertEqual([is_needless(book, number) for number in range(4)], [True] * 4)
        self.assertEqual(kept_rules(book), [(2, 1, 3)])
        self.assertEqual(kept_rules(Book(0, 9, [(2, 1, 3), (4, 2, 6), (6, 3, 9)])), [(2, 1, 3)])
        self.assertEqual(kept_rules(Book(0, 9, [(2, 1, 3), (6, 4, 9), (4, 2, 6)])), [(2, 1, 3), (6, 4, 9)])
        # With the pairs of days, either of the other two rules tells the other one.
        pairs, days, threes = (2, 5, 5), (1, 2, 3), (3, 7, 8)
        self.assertEqual(kept_rules(Book(-20, 20, [pairs, threes, days])), [pairs, threes])
        self.assertEqual(kept_rules(Book(-20, 20, [pairs, days, threes])), [pairs, days])
        self.assertEqual(kept_rules(Book(-20, 20, [threes, days, pairs])), [threes, pairs])
        self.assertEqual(kept_rules(Book(-20, 20, [threes, days, days, pairs, pairs])), [threes, pairs])

    def test_no_rules(self):
        self.assertEqual(kept_rules(Book(0, 9, [])), [])
        self.assertEqual(kept_rules(book=Book(0, 9, [(3, 0, 27)])), [])

    def test_new_lists(self):
        book = Book(0, 1, [(3, 0, 1)])
        told = kept_rules(book)
        self.assertIsInstance(told, list)
        told.append((1, 0, 0))
        self.assertEqual((kept_rules(book), book.rules), ([(3, 0, 1)], [(3, 0, 1)]))
        self.assertEqual(book, Book(0, 1, [(3, 0, 1)]))

    def test_against_all_lists(self):
        needless = 0
        for book in books_with_rows(32, 300):
            live = live_windows(book, 4)
            rules = book.rules
            for number in range(len(rules)):
                others = Book(book.low, book.high, rules[:number] + rules[number + 1:])
                told = live_windows(others, 4) == live
                self.assertIs(is_needless(book, number), told)
                needless += told
            for number in reversed(range(len(rules))):
                others = rules[:number] + rules[number + 1:]
                if live_windows(Book(book.low, book.high, others), 4) == live:
                    rules = others
            self.assertEqual(kept_rules(book), rules)
        self.assertGreater(needless, 50)

    def test_kept_rules_tell_the_others(self):
        for book in limit_books(33, 30):
            kept = Book(book.low, book.high, kept_rules(book))
            self.assertTrue(same_rows(kept, book))
            self.assertFalse([number for number in range(len(kept.rules)) if is_needless(kept, number)])

    def test_errors(self):
        book = Book(0, 1, [(7, 2, 7), (3, 0, 1)])
        for number in (-1, -2, 2, 3, 10 ** 30, -10 ** 30):
            self.assertEqual(caught(is_needless, book, number), (InvalidNumber, number))
            self.assertEqual(caught(is_needless, number=number, book=book), (InvalidNumber, number))
            self.assertEqual(caught(is_needless, EMPTY, number), (NoRows, (1, 2)))
        self.assertEqual(caught(is_needless, Book(0, 1, []), 0), (InvalidNumber, 0))
        self.assertEqual(caught(is_needless, EMPTY, 0), (NoRows, (1, 2)))
        self.assertEqual(caught(kept_rules, EMPTY), (NoRows, (1, 2)))


class AlikeTest(unittest.TestCase):

    def check_unlike(self, book, other, told):
        self.assertEqual(first_unlike(book, other), told)
        self.assertEqual(first_unlike(other, book), told)
        self.assertIs(same_rows(book, other), told is None)
        self.assertIs(same_rows(other, book), told is None)

    def test_a_book_and_itself(self):
        for book in limit_books(34, 10) + [Book(3, 3, [])]:
            self.check_unlike(book, book, None)
            self.check_unlike(book, Book(book.low, book.high, book.rules[::-1]), None)

    def test_unlike_rules(self):
        self.check_unlike(Book(0, 1, [(2, 1, 2), (4, 2, 4)]), Book(0, 1, [(2, 1, 2)]), None)
        self.check_unlike(Book(0, 1, [(7, 2, 7), (3, 0, 1)]), Book(0, 1, [(3, 0, 1), (4, 1, 4), (7, 2, 3)]), None)

    def test_unlike_days(self):
        self.check_unlike(Book(-5, 9, [(1, 0, 1)]), Book(0, 1, []), None)
        self.check_unlike(Book(0, 1, [(2, 1, 1)]), Book(-20, 1, [(2, 1, 1)]), None)
        self.check_unlike(Book(-20, 20, [(2, 5, 5), (3, 7, 8)]), Book(2, 3, [(2, 5, 5)]), None)
        self.check_unlike(Book(-20, 20, [(2, 5, 5), (3, 7, 8)]), Book(2, 4, [(2, 5, 5)]), None)
        self.check_unlike(Book(-20, 20, [(2, 5, 5), (3, 7, 8)]), Book(1, 4, [(2, 5, 5)]), (1, "least"))
        self.check_unlike(Book(0, 2, []), Book(0, 3, []), (1, "greatest"))
        self.check_unlike(Book(1, 2, []), Book(0, 3, []), (1, "least"))

    def test_length_and_word(self):
        plant = Book(0, 1, [(7, 2, 7)])
        self.check_unlike(plant, Book(0, 1, [(7, 2, 3)]), (4, "greatest"))
        self.check_unlike(plant, Book(0, 1, [(6, 1, 6)]), (7, "least"))
        self.check_unlike(plant, Book(0, 1, [(7, 3, 3)]), (4, "greatest"))
        self.check_unlike(plant, Book(0, 1, [(7, 3, 4)]), (5, "least"))
        self.check_unlike(Book(0, 9, [(40, 7, 359)]), Book(0, 9, [(40, 7, 360)]), (40, "greatest"))
        self.check_unlike(Book(0, 9, [(40, 1, 360)]), Book(0, 9, [(40, 0, 360)]), (40, "least"))
        self.check_unlike(Book(0, 9, [(40, 1, 359)]), Book(0, 9, [(40, 0, 360)]), (40, "least"))

    def test_least_ahead_of_greatest(self):
        self.check_unlike(Book(0, 9, [(2, 1, 17)]), Book(0, 9, []), (2, "least"))
        self.check_unlike(Book(0, 9, [(2, 0, 17), (3, 1, 27)]), Book(0, 9, []), (2, "greatest"))

    def test_against_all_lists(self):
        found = {}
        for book, other in book_pairs(35, 400):
            sums, other_sums = tried_sums(book, 4, 12), tried_sums(other, 4, 12)
            told = None
            for length in range(12, 0, -1):
                if sums[length][1] != other_sums[length][1]:
                    told = (length, "greatest")
                if sums[length][0] != other_sums[length][0]:
                    told = (length, "least")
            self.check_unlike(book, other, told)
            self.assertEqual(told is None, live_windows(book, 4) == live_windows(other, 4))
            found[told] = found.get(told, 0) + 1
        self.assertGreater(found[None], 40)
        self.assertGreater(len(found), 4)

    def test_against_sums_at_the_limits(self):
        for book, other in zip(limit_books(36, 30), limit_books(37, 30)):
            for near in (other, Book(book.low, book.high, book.rules[1:]), Book(book.low, book.high, other.rules[:1])):
                if near.has_rows():
                    told = None
                    for length in range(200, 0, -1):
                        if greatest_sum(book, length) != greatest_sum(near, length):
                            told = (length, "greatest")
                        if least_sum(book, length) != least_sum(near, length):
                            told = (length, "least")
                    self.check_unlike(book, near, told)

    def test_great_values(self):
        plant = Book(0, 1, [(7, 2, 7)])
        great, more = plant.scaled(10 ** 40, -10 ** 39), Book(0, 1, [(7, 2, 3)]).scaled(10 ** 40, -10 ** 39)
        self.check_unlike(great, more, (4, "greatest"))
        self.check_unlike(great, plant.scaled(10 ** 40, -10 ** 39), None)

    def test_by_name(self):
        plant, other = Book(0, 1, [(7, 2, 7)]), Book(0, 1, [(6, 1, 6)])
        self.assertEqual(first_unlike(other_book=other, book=plant), (7, "least"))
        self.assertIs(same_rows(other_book=other, book=plant), False)
        self.assertIs(tells(rule=(7, 2, 7), book=plant), True)
        self.assertIs(is_needless(number=0, book=plant), False)

    def test_errors(self):
        book = Book(0, 1, [(7, 2, 7)])
        for call in (same_rows, first_unlike):
            self.assertEqual(caught(call, EMPTY, book), (NoRows, (1, 2)))
            self.assertEqual(caught(call, book, EMPTY), (NoRows, (1, 2)))
            self.assertEqual(caught(call, OTHER_EMPTY, EMPTY), (NoRows, (0, 1)))
            self.assertEqual(caught(call, EMPTY, OTHER_EMPTY), (NoRows, (1, 2)))
            self.assertEqual(caught(call, EMPTY, EMPTY), (NoRows, (1, 2)))


if __name__ == "__main__":
    unittest.main()
