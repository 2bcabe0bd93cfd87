"""Promises 1 to 7 over the whole program: what its parts tell of the same rows goes together."""

import ast
import importlib
import inspect
import random
import unittest

from everyspan.books import Book
from everyspan.counts import count_stretches, nth_stretch, stretch_index
from everyspan.early import early_day, early_days, late_day, late_days
from everyspan.errors import Contradiction
from everyspan.known import first_wrong, sure_sums
from everyspan.plain import is_needless, kept_rules, same_rows
from everyspan.planners import Planner, ShortPlanner
from everyspan.readings import read_book, read_known
from everyspan.seen import first_lost, next_days, stands
from everyspan.spans import greatest_sum, least_sum, shares
from everyspan.texts import show_book, show_known
from tests.helper import close_books, day_books, known_sums, limit_books, small_books
from tests.test_books import caught
from tests.test_known import BOTH, FAR, PLANT
from tests.test_spans import SLOW

# The functions of each file, with the names of their arguments.
FUNCTIONS = {
    "spans": ["greatest_sum book length", "least_sum book length", "shares book"],
    "plain": ["tells book rule", "is_needless book number", "kept_rules book", "same_rows book other_book",
              "first_unlike book other_book"],
    "strict": ["strictest_least book width", "strictest_most book width"],
    "known": ["first_wrong book known", "sure_sums book known begin length"],
    "early": ["early_day book known begin day", "late_day book known begin day", "early_days book known begin length",
              "late_days book known begin length", "early_place book known begin total"],
    "seen": ["stands book days", "first_lost book days", "next_days book days"],
    "counts": ["count_stretches book length", "nth_stretch book length index", "stretch_index book days"],
    "texts": ["show_book book", "show_known known"],
    "readings": ["read_book text", "read_known text"],
    "books": ["Book low high rules"],
    "planners": ["Planner book", "ShortPlanner book most"],
}


def day_sums(days, begin=0):
    """A list of days as known sums, one by one."""
    return [(begin + index, 1, day) for index, day in enumerate(days)]


def books(seed):
    small = [book for book in small_books(seed, 40) if book.has_rows()]
    return small + limit_books(seed + 1, 10) + close_books(seed + 2, 4) + day_books(seed + 3, 20) + SLOW[:2]


class SeenAndKnownTest(unittest.TestCase):

    def changed_rows(self, seed, many):
        """Books and lists of so many days, many of them changed at a day."""
        chance = random.Random(seed)
        for book in books(seed):
            for call in (early_days, late_days):
                days = call(book, known_sums(chance, book, 2, 20, 15), chance.randint(-20, 20), many)
                days[chance.randrange(many)] += chance.choice([0, 0, -1, 1])
                yield book, days

    def test_days_one_by_one(self):
        for book, days in self.changed_rows(500, 12):
            for begin in (0, -FAR):
                known = day_sums(days, begin)
                wrong = first_wrong(book, known)
                self.assertEqual(first_lost(book, days), wrong)
                self.assertIs(stands(book, days), wrong is None)
                if wrong is None:
                    self.assertEqual(next_days(book, days), sure_sums(book, known, begin + 12, 1))
                else:
                    self.assertIsNone(next_days(book, days))
                    self.assertEqual(caught(sure_sums, book, known, 0, 1), (Contradiction, wrong))

    def test_planners(self):
        """A planner refuses just what first_wrong tells, and is as sure as the list that was seen."""
        for book, days in self.changed_rows(510, 12):
            planner = Planner(book)
            for index, day in enumerate(days):
                wrong = first_wrong(book, planner.known + [(index, 1, day)])
                due = None if wrong is None else (Contradiction, wrong)
                self.assertEqual(next_days(book, days[:index]), planner.sure(index, 1))
                self.assertEqual(caught(planner.know, index, 1, day), due)
                if due is not None:
                    self.assertEqual((first_lost(book, days), wrong), (index, index))
                    break
            else:
                self.assertIsNone(first_lost(book, days))

    def test_known_sums_of_rows(self):
        """Sums of a row's stretches go together, and what they make sure leaves the row's sums possible."""
        chance = random.Random(520)
        for book, days in self.changed_rows(521, 30):
            if not stands(book, days):
                continue
            planner = ShortPlanner(book, 6)
            for _ in range(6):
                first = chance.randrange(30)
                length = chance.randint(1, 30 - first)
                planner.know(first, length, sum(days[first:first + length]))
            self.assertIsNone(first_wrong(book, planner.known))
            for first in (0, 11, 29):
                least, greatest = planner.sure(first, 30 - first)
                self.assertTrue(least <= sum(days[first:]) <= greatest)
                self.assertEqual(greatest, sum(early_days(book, planner.known, first, 30 - first)))
                self.assertEqual(least, sum(late_days(book, planner.known, first, 30 - first)))

    def test_rows_of_known_sums_stand(self):
        chance = random.Random(530)
        for book in books(531):
            known = known_sums(chance, book, 4, 30, 20)
            for days in (early_days(book, known, -30, 80), late_days(book, known, -30, 80)):
                self.assertIs(stands(book, days), True)
                for begin, length, total in known:
                    self.assertEqual(sum(days[begin + 30:begin + 30 + length]), total)

    def test_guarantee(self):
        """One row has the greatest sums of all lengths at once, another one the least; all between them come."""
        for book in books(540):
            early, late = early_days(book, [], 7, 60), late_days(book, [], 7, 60)
            for length in range(61):
                least, greatest = least_sum(book, length), greatest_sum(book, length)
                self.assertEqual((sum(late[:length]), sum(early[:length])), (least, greatest))
                for total in {least, (least + greatest) // 2, greatest} if length else ():
                    self.assertIsNone(first_wrong(book, [(3, length, total)]))
            self.assertEqual(early_day(book, [], -FAR, -FAR + 59), early[59])
            self.assertEqual(late_day(book, [], FAR, FAR + 59), late[59])


class CountsTest(unittest.TestCase):

    def test_first_and_last_list(self):
        for book in day_books(550, 60):
            for length in (1, 5, 8, 60):
                many = count_stretches(book, length)
                self.assertEqual(nth_stretch(book, length, 0), late_days(book, [], 0, length))
                self.assertEqual(nth_stretch(book, length, many - 1), early_days(book, [], 0, length))

    def test_next_days(self):
        """The lists that are a day longer are those that go on with the days that can follow."""
        for book in day_books(560, 40):
            many = count_stretches(book, 8)
            rows = [nth_stretch(book, 8, index) for index in range(many)]
            longer = []
            for row in rows:
                least, greatest = next_days(book, row)
                longer += [row + [day] for day in range(least, greatest + 1)]
            self.assertEqual(count_stretches(book, 9), len(longer))
            self.assertEqual([stretch_index(book, row) for row in longer], list(range(len(longer))))

    def test_sums(self):
        for book in day_books(570, 40):
            for length in (3, 8):
                told = [sum(nth_stretch(book, length, index)) for index in range(count_stretches(book, length))]
                self.assertEqual(sorted(set(told)),
                                 list(range(least_sum(book, length), greatest_sum(book, length) + 1)))

    def test_needless_rules(self):
        found = 0
        for book in day_books(580, 150):
            for number in range(len(book.rules)):
                rules = book.rules
                del rules[number]
                other = Book(book.low, book.high, rules)
                alike = [count_stretches(book, length) for length in range(15)] == \
                    [count_stretches(other, length) for length in range(15)]
                self.assertIs(alike, is_needless(book, number))
                found += alike
            kept = Book(book.low, book.high, kept_rules(book))
            self.assertTrue(same_rows(kept, book))
            self.assertEqual(count_stretches(kept, 60), count_stretches(book, 60))
        self.assertGreater(found, 50)

    def test_bound_rules(self):
        for book in day_books(590, 40):
            planner = Planner(book)
            for rule in ((5, 0, greatest_sum(book, 5)), (4, least_sum(book, 4), 4)):
                planner.bind(rule)
                self.assertEqual(count_stretches(planner.book, 40), count_stretches(book, 40))


class TextsTest(unittest.TestCase):

    def test_texts_lead_back_to_what_answers_alike(self):
        chance = random.Random(600)
        for book in books(601):
            known = known_sums(chance, book, 4, *chance.choice([(30, 20), (FAR, FAR)]))
            other, others = read_book(show_book(book)), read_known(show_known(known))
            self.assertEqual((other, others), (book, known))
            for begin, length in ((0, 50), (-FAR, FAR + 3), (known[0][0] - 3, 9)):
                self.assertEqual(sure_sums(other, others, begin, length), sure_sums(book, known, begin, length))
                self.assertEqual(early_day(other, others, begin, begin + length),
                                 early_day(book, known, begin, begin + length))
            self.assertEqual(shares(other), shares(book))

    def test_planners_from_texts(self):
        chance = random.Random(610)
        for book in books(611):
            planner, other = Planner(book), Planner(read_book(show_book(book)))
            for told in known_sums(chance, book, 4, 30, 20):
                planner.know(*told)
            for told in read_known(show_known(planner.known)):
                other.know(*told)
            self.assertTrue(planner == other)
            self.assertEqual(planner.sure(-50, 100), other.sure(-50, 100))


class TurnsTest(unittest.TestCase):

    def test_one_book_by_turns(self):
        chance = random.Random(620)
        for book in day_books(621, 25):
            calls = []
            for _ in range(12):
                length = chance.randint(0, 60)
                index = chance.randrange(count_stretches(book, length))
                days = nth_stretch(book, length, index)
                known = known_sums(chance, book, 3, 30, 20)
                calls += [(count_stretches, length), (nth_stretch, length, index), (stretch_index, days),
                          (next_days, days), (sure_sums, known, 3, length), (early_days, known, -9, length),
                          (greatest_sum, length), (show_book,), (shares,)]
            chance.shuffle(calls)
            asked = Book(book.low, book.high, book.rules)
            for call, *rest in calls:
                self.assertEqual(call(asked, *rest), call(Book(book.low, book.high, book.rules), *rest))
            self.assertEqual(asked, book)


class InterfaceTest(unittest.TestCase):
    """What the document lists exists under its name, in its file, with its arguments."""

    def test_functions(self):
        for file, listed in FUNCTIONS.items():
            module = importlib.import_module("everyspan." + file)
            defined = [part.name for part in ast.parse(inspect.getsource(module)).body if hasattr(part, "name")]
            for told in listed:
                name, *arguments = told.split()
                self.assertIn(name, defined)
                self.assertEqual(list(inspect.signature(getattr(module, name)).parameters), arguments)

    def test_classes(self):
        for made, names in ((Book, ["turned", "scaled", "has_rows", "conflict", "low", "high", "rules", "__eq__"]),
                            (Planner, ["book", "known", "know", "forget", "bind", "undo", "sure", "story", "__len__",
                                       "__eq__", "__init__"]), (ShortPlanner, ["__init__", "know"])):
            for name in names:
                self.assertIn(name, vars(made))
        for name, told in (("turned", ""), ("scaled", "factor shift"), ("has_rows", ""), ("conflict", "")):
            self.assertEqual(list(inspect.signature(getattr(BOTH, name)).parameters), told.split())
        for planner in (Planner(BOTH), ShortPlanner(PLANT, 1)):
            for name, told in (("know", "begin length total"), ("forget", "number"), ("bind", "rule"), ("undo", ""),
                               ("sure", "begin length"), ("story", "")):
                self.assertEqual(list(inspect.signature(getattr(planner, name)).parameters), told.split())


if __name__ == "__main__":
    unittest.main()
