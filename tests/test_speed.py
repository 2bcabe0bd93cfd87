"""The program is asked many questions in a row; the limits are generous, for slow machines."""

import random
import time
import unittest

from everyspan.books import Book
from everyspan.counts import count_stretches, nth_stretch, stretch_index
from everyspan.early import early_day, early_days, early_place, late_day, late_days
from everyspan.known import first_wrong, sure_sums
from everyspan.plain import first_unlike, kept_rules, same_rows
from everyspan.planners import Planner, ShortPlanner
from everyspan.readings import read_book, read_known
from everyspan.seen import first_lost, next_days, stands
from everyspan.spans import greatest_sum, least_sum
from everyspan.strict import strictest_least, strictest_most
from everyspan.texts import show_book, show_known
from tests.helper import close_books, day_books, known_sums, limit_books
from tests.test_spans import SLOW

PARTS = [(book.low, book.high, book.rules) for book in limit_books(40, 300) + SLOW]


def cases(seed, many, spread, longest):
    """The parts of books at the limits, many known sums, and begins and lengths of stretches."""
    chance = random.Random(seed)
    found = []
    for book in limit_books(seed, 100) + limit_books(seed, 60, lowest=0) + close_books(seed, 40) + SLOW:
        known = known_sums(chance, book, many, spread, longest)
        begin, length = chance.randint(-spread, spread), chance.randint(0, longest)
        found.append(((book.low, book.high, book.rules), known, begin, length))
    return found


class SpeedTest(unittest.TestCase):

    def check_seconds(self, limit, call):
        start = time.perf_counter()
        call()
        self.assertLess(time.perf_counter() - start, limit)

    def test_new_books(self):
        for length in (10, 45, 700, 1500, 10 ** 30):
            self.check_seconds(2, lambda: [greatest_sum(Book(*parts), length) for parts in PARTS])
            self.check_seconds(2, lambda: [least_sum(Book(*parts), length) for parts in PARTS])

    def test_the_same_books(self):
        books = [Book(*parts) for parts in PARTS]
        lengths = list(range(0, 1600, 40)) + [10 ** 30 - k for k in range(40)]
        self.check_seconds(4, lambda: [greatest_sum(book, length) for book in books for length in lengths])
        self.check_seconds(2, lambda: [least_sum(book, length) for book in books for length in lengths[40:]])

    def test_plain(self):
        self.check_seconds(5, lambda: [kept_rules(Book(*parts)) for parts in PARTS])
        pairs = list(zip(PARTS, PARTS[1:]))
        self.check_seconds(3, lambda: [same_rows(Book(*one), Book(*other)) for one, other in pairs])
        self.check_seconds(3, lambda: [first_unlike(Book(*one), Book(*other)) for one, other in pairs])
        self.check_seconds(3, lambda: [first_unlike(Book(*one), Book(*one)) for one in PARTS])

    def check_questions(self, limit, cases):
        """A few hundred questions of each kind, of new books and of the same ones."""
        books = [Book(*parts) for parts, _, _, _ in cases]
        new = [Book(*parts) for parts, _, _, _ in cases]
        for told in (new, books):
            asked = [(book, *case[1:]) for book, case in zip(told, cases)]
            from_0 = [row for row in asked if row[0].low >= 0]
            self.check_seconds(limit, lambda: [first_wrong(*row[:2]) for row in asked])
            self.check_seconds(limit, lambda: [sure_sums(*row) for row in asked])
            self.check_seconds(limit, lambda: [early_day(*row[:3], row[2] + row[3]) for row in asked])
            self.check_seconds(limit, lambda: [late_day(*row[:3], row[2] + row[3]) for row in asked])
            self.check_seconds(limit, lambda: [early_days(*row[:3], 120) for row in asked])
            self.check_seconds(limit, lambda: [late_days(*row[:3], 120) for row in asked])
            self.check_seconds(limit, lambda: [early_place(*row[:3], 1 + row[3] // 2) for row in from_0])
            self.check_seconds(limit, lambda: [early_place(*row[:3], 10 ** 30) for row in from_0])

    def test_four_known_sums(self):
        for spread, longest in ((100, 60), (1600, 1600), (10 ** 30, 10 ** 30)):
            self.check_questions(3, cases(41, 4, spread, longest))

    def test_twelve_known_sums(self):
        for spread, longest in ((200, 60), (10 ** 30, 10 ** 30)):
            self.check_questions(4, cases(42, 12, spread, longest))

    def test_long_lists(self):
        told = [(Book(*parts), known, begin) for parts, known, begin, _ in cases(43, 4, 100, 60)[-60:]]
        self.check_seconds(4, lambda: [early_days(*row, 3300) for row in told])
        self.check_seconds(4, lambda: [late_days(*row, 3300) for row in told])

    def test_seen(self):
        told = [(Book(*parts), late_days(Book(*parts), known, begin, 120))
                for parts, known, begin, _ in cases(44, 4, 100, 60)]
        for _ in range(2):
            self.check_seconds(3, lambda: [stands(*row) for row in told])
            self.check_seconds(3, lambda: [first_lost(*row) for row in told])
            self.check_seconds(3, lambda: [next_days(*row) for row in told])

    def test_counts(self):
        """First counts of new books, the rules with the most different lists among them, then of the same books."""
        parts = [(book.low, book.high, book.rules) for book in day_books(45, 200)]
        parts += [(0, 1, [(7, least, most), (5, 1, 4)]) for least in range(6) for most in range(max(least, 2), 8)] * 4
        for length in (7, 60):
            self.check_seconds(3, lambda: [count_stretches(Book(*part), length) for part in parts])
            self.check_seconds(3, lambda: [nth_stretch(Book(*part), length, 0) for part in parts])
        books = [Book(*part) for part in parts]
        rows = [nth_stretch(book, 60, count_stretches(book, 60) // 2) for book in books]
        self.check_seconds(2, lambda: [count_stretches(book, length) for book in books for length in (3, 30, 60)])
        self.check_seconds(2, lambda: [nth_stretch(book, length, 0) for book in books for length in (3, 30, 60)])
        self.check_seconds(2, lambda: [stretch_index(book, row) for book, row in zip(books, rows)])

    def check_planners(self, limit, cases):
        """A few hundred calls of each kind, of planners that go on."""
        books = [Book(*parts) for parts, _, _, _ in cases]
        rules = [(13, least_sum(book, 13), greatest_sum(book, 13) + 1) for book in books]
        planners = [ShortPlanner(book, 12) if len(book.rules) & 1 else Planner(book) for book in books]
        asked = list(zip(planners, cases, rules))
        self.check_seconds(limit, lambda: [planner.know(*told) for planner, case, _ in asked for told in case[1]])
        self.check_seconds(limit, lambda: [planner.sure(*case[2:]) for planner, case, _ in asked])
        self.check_seconds(limit, lambda: [planner.bind(rule) for planner, _, rule in asked])
        self.check_seconds(limit, lambda: [planner.sure(*case[2:]) for planner, case, _ in asked])
        self.check_seconds(limit, lambda: [planner.forget(1) for planner in planners])
        self.check_seconds(limit, lambda: [planner.undo() for planner in planners])
        self.check_seconds(limit, lambda: [(planner.known, planner.story(), len(planner)) for planner in planners])
        self.check_seconds(limit, lambda: [planner == other for planner in planners for other in planners[:20]])
        self.check_seconds(limit, lambda: [planner.undo() for planner in planners])

    def test_planners(self):
        for many, spread, longest in ((4, 100, 60), (12, 200, 60), (12, 10 ** 30, 10 ** 30)):
            self.check_planners(4, cases(46, many, spread, longest))

    def test_texts(self):
        chance = random.Random(47)
        many = 10 ** 30
        known = [[(chance.randint(-many, many), chance.randint(1, many), -number) for number in range(12)]
                 for _ in range(200)]
        books = [Book(*parts) for parts in PARTS]
        self.check_seconds(2, lambda: [read_book(show_book(book)) for book in books])
        self.check_seconds(2, lambda: [read_known(show_known(told)) for told in known])
        self.check_seconds(2, lambda: [read_book("0..1" + "; 7: 2..7" * 221) for _ in range(200)])
        self.check_seconds(2, lambda: [read_known(" ".join(["0+3=1"] * 333)) for _ in range(200)])

    def test_strict(self):
        for width in (7, 40, 10 ** 30):
            self.check_seconds(2, lambda: [strictest_least(Book(*parts), width) for parts in PARTS])
            self.check_seconds(2, lambda: [strictest_most(Book(*parts), width) for parts in PARTS])


if __name__ == "__main__":
    unittest.main()
