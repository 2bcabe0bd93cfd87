"""Promises 2 and 4: one book that is asked everything by turns, and books with the same rules in other words."""

import random
import unittest

from everyspan.books import Book
from everyspan.early import early_day, early_days, early_place, late_day, late_days
from everyspan.known import first_wrong, sure_sums
from everyspan.plain import kept_rules, tells
from everyspan.seen import first_lost, next_days, stands
from everyspan.spans import greatest_sum, least_sum, shares
from everyspan.strict import strictest_least, strictest_most
from tests.helper import close_books, known_sums, limit_books
from tests.test_spans import SLOW

FAR = 10 ** 30


def questions(chance, book, many):
    """Calls of all kinds, each with its arguments behind the book."""
    near, far = known_sums(chance, book, 4, 60, 50), known_sums(chance, book, 4, FAR, FAR)
    days = early_days(book, near, -70, 60)
    days[chance.randrange(60)] -= chance.choice([0, 1])
    told = []
    for _ in range(many):
        known, spread = chance.choice([(near, 80), (near, 2000), (far, FAR), ([], 3000)])
        begin, length = chance.randint(-spread, spread), chance.choice([0, 3, 40, 1570, chance.randint(0, spread)])
        told += [(first_wrong, known + [(begin, 7, 3)]), (sure_sums, known, begin, length),
                 (early_day, known, begin, begin + length), (late_day, known, begin, begin + length),
                 (early_days, known, begin, chance.choice([5, 60, 1650])), (late_days, known, begin, 60),
                 (stands, days), (first_lost, days), (next_days, days[:chance.randint(0, 60)]), (shares,),
                 (greatest_sum, length), (least_sum, length), (tells, (39, -700, 0)),
                 (strictest_least, length + 1), (strictest_most, length + 1)]
        if book.low >= 0:
            told.append((early_place, known, begin, chance.choice([1, 60, 2500, FAR])))
    chance.shuffle(told)
    return told


def books(seed):
    return limit_books(seed, 8) + limit_books(seed + 1, 5, lowest=0) + close_books(seed + 2, 4) + SLOW


class TurnsTest(unittest.TestCase):

    def test_one_book_by_turns(self):
        chance = random.Random(120)
        for book in books(121):
            asked = Book(book.low, book.high, book.rules)
            for call, *rest in questions(chance, book, 4):
                new = Book(book.low, book.high, book.rules)
                self.assertEqual(call(asked, *rest), call(new, *rest), (call.__name__, book.rules, rest))
                self.assertEqual(call(asked, *rest), call(new, *rest))
            self.assertTrue(asked == Book(book.low, book.high, book.rules))
            self.assertEqual((asked.rules, asked.low, asked.high), (book.rules, book.low, book.high))

    def test_rules_in_another_sequence_or_twice(self):
        chance = random.Random(122)
        for book in books(123):
            rules = book.rules
            for other in (rules[::-1], chance.sample(rules, len(rules)), rules + [chance.choice(rules)], rules * 2):
                other = Book(book.low, book.high, other)
                for call, *rest in questions(chance, book, 1):
                    self.assertEqual(call(other, *rest), call(book, *rest), (call.__name__, rules, rest))

    def test_books_with_the_same_rows(self):
        chance = random.Random(124)
        for book in books(125):
            kept = Book(book.low, book.high, kept_rules(book))
            more = [(width, least_sum(book, width), greatest_sum(book, width)) for width in (3, 17, 44)]
            for other in (kept, Book(book.low, book.high, book.rules + more)):
                for call, *rest in questions(chance, book, 1):
                    self.assertEqual(call(other, *rest), call(book, *rest), (call.__name__, book.rules, rest))

    def test_told_lists_are_not_kept(self):
        chance = random.Random(126)
        for book in books(127)[:8]:
            known = known_sums(chance, book, 4, 60, 50)
            told = early_days(book, known, 0, 40)
            for index in range(40):
                told[index] += 7
            known.append((0, 5, 999))
            known.clear()
            self.assertEqual(sure_sums(book, [], 0, 40), (least_sum(book, 40), greatest_sum(book, 40)))
            self.assertEqual(sum(early_days(book, [], 0, 40)), greatest_sum(book, 40))


if __name__ == "__main__":
    unittest.main()
