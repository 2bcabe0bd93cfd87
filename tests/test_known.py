"""Promises 5 to 7: known sums that do not go together, and what is sure of other stretches."""

import random
import unittest

from everyspan.books import Book
from everyspan.errors import Contradiction, InvalidKnown, InvalidLength, NoRows
from everyspan.known import first_wrong, sure_sums
from everyspan.spans import greatest_sum, least_sum
from tests.helper import (close_books, known_sums, limit_books, moved, small_books, tried_rows, turned_known,
                          walked_heights, walked_wrong)
from tests.test_books import EMPTY, caught
from tests.test_spans import SLOW

PLANT, BOTH, FREE = Book(0, 1, [(7, 2, 7)]), Book(0, 1, [(7, 2, 7), (3, 0, 1)]), Book(0, 1, [])
FAR = 10 ** 30
OTHER_EMPTY = Book(1, 2, [(3, 0, 2)])


def tried_cases(seed, many, days=7):
    """Small books, known sums, the number of the first wrong one, and all lists of so many days that have the others.

    The first day is day 0. A list ends with the first wrong sum, or with some behind it.
    """
    chance = random.Random(seed)
    cases = []
    for book in small_books(seed, many):
        if not book.has_rows():
            continue
        rows = tried_rows(book, 4, days)
        known, wrong = [], None
        for number in range(chance.randint(0, 5)):
            begin = chance.randrange(days)
            length = chance.randint(1, days - begin)
            sums = sorted({sum(row[begin:begin + length]) for row in rows})
            total = chance.choice(sums + sums[:1] + sums[-1:] + [sums[0] - 1, sums[-1] + 1])
            known.append((begin, length, total))
            if wrong is None and total not in sums:
                wrong = number
            elif wrong is None:
                rows = [row for row in rows if sum(row[begin:begin + length]) == total]
        cases.append((book, known, wrong, rows))
    return cases


class FirstWrongTest(unittest.TestCase):

    def check(self, book, known, number):
        passed = list(known)
        self.assertEqual(first_wrong(book, passed), number, (book.low, book.high, book.rules, known))
        self.assertEqual(passed, known)

    def test_none_known(self):
        for book in (PLANT, BOTH, FREE, Book(3, 3, [])):
            self.check(book, [], None)

    def test_one(self):
        for begin in (0, -7, 12345, FAR, -FAR):
            self.check(BOTH, [(begin, 7, 2)], None)
            self.check(BOTH, [(begin, 7, 3)], None)
            self.check(BOTH, [(begin, 7, 1)], 0)
            self.check(BOTH, [(begin, 7, 4)], 0)
            self.check(PLANT, [(begin, FAR, FAR)], None)
            self.check(PLANT, [(begin, FAR, FAR + 1)], 0)
            self.check(PLANT, [(begin, FAR, 2 * (FAR - 1) // 7)], None)
            self.check(PLANT, [(begin, FAR, 2 * (FAR - 1) // 7 - 1)], 0)

    def test_same_stretch_twice(self):
        for total in (2, 3):
            self.check(BOTH, [(5, 7, total), (5, 7, total)], None)
            self.check(BOTH, [(5, 7, total), (5, 7, total), (5, 7, 5 - total)], 2)
            self.check(BOTH, [(5, 7, total), (12, 7, 2), (5, 7, 5 - total)], 2)
            self.check(BOTH, [(5, 7, total), (5, 7, 9)], 1)

    def test_within_overlapping_beside(self):
        self.check(FREE, [(0, 5, 5), (1, 2, 2)], None)
        self.check(FREE, [(0, 5, 5), (1, 2, 1)], 1)
        self.check(FREE, [(1, 2, 0), (0, 5, 4)], 1)
        self.check(FREE, [(0, 4, 4), (2, 4, 1)], 1)
        self.check(FREE, [(0, 4, 4), (2, 4, 2)], None)
        self.check(BOTH, [(0, 3, 1), (3, 4, 0)], 1)
        self.check(BOTH, [(0, 3, 1), (3, 4, 1)], None)
        self.check(BOTH, [(0, 2, 1), (2, 1, 1)], 1)

    def test_by_a_third_stretch(self):
        self.check(FREE, [(0, 2, 2), (2, 2, 2), (0, 4, 3)], 2)
        self.check(FREE, [(0, 4, 2), (2, 4, 2), (0, 2, 2), (4, 2, 1)], 3)
        self.check(FREE, [(0, 4, 2), (4, 4, 2), (0, 8, 4), (2, 4, 4), (0, 2, 0), (6, 2, 1)], 5)
        self.check(Book(-20, 20, []), [(0, 10, 7), (10, 5, -3), (20, 5, 1), (15, 5, 4), (0, 25, 9)], None)
        self.check(Book(-20, 20, []), [(0, 10, 7), (10, 5, -3), (20, 5, 1), (15, 5, 4), (0, 25, 8)], 4)

    def test_by_what_lies_between(self):
        # Days 0 to 6 need 2, but day 3 alone is left for them.
        self.check(PLANT, [(0, 3, 0), (4, 3, 0)], 1)
        self.check(PLANT, [(0, 3, 0), (5, 3, 0)], None)
        self.check(PLANT, [(0, 3, 0), (5, 3, 0), (3, 2, 1)], 2)
        self.check(Book(0, 1, [(3, 0, 1)]), [(0, 2, 1), (3, 2, 1), (1, 1, 1), (3, 1, 1)], 3)

    def test_ends_without_a_gap(self):
        for book in (BOTH, Book(-20, 20, [(2, 5, 5), (3, 7, 8)])):
            least, greatest = least_sum(book, 11), greatest_sum(book, 11)
            for total in range(least, greatest + 1):
                self.check(book, [(-4, 11, total)], None)
            self.check(book, [(-4, 11, least - 1)], 0)
            self.check(book, [(-4, 11, greatest + 1)], 0)

    def test_far_from_each_other(self):
        self.check(PLANT, [(-FAR, 3, 0), (FAR, 3, 0)], None)
        self.check(PLANT, [(-FAR, 3, 0), (FAR, 3, 0), (-FAR, 2 * FAR + 3, 2 * FAR - 3)], None)
        self.check(PLANT, [(-FAR, 3, 0), (FAR, 3, 0), (-FAR, 2 * FAR + 3, 2 * FAR - 2)], 2)
        self.check(PLANT, [(-FAR, 2 * FAR, 2 * FAR), (FAR - 1, 1, 0)], 1)
        self.check(PLANT, [(-FAR, 2 * FAR, 2 * FAR), (FAR, 5, 0), (FAR, 6, 0)], 2)

    def test_against_all_lists(self):
        found = {}
        for book, known, wrong, _ in tried_cases(60, 500):
            self.check(book, known, wrong)
            self.check(book, moved(known, -FAR), wrong)
            found[wrong] = found.get(wrong, 0) + 1
        self.assertGreater(min(found.get(key, 0) for key in (None, 0, 1, 2, 3)), 8)

    def test_against_walks(self):
        chance = random.Random(61)
        found = {}
        for book in limit_books(61, 12) + close_books(62, 12) + limit_books(63, 12, rules=3, widest=9):
            for many in (3, 12):
                known = known_sums(chance, book, many, 90, 60)
                self.check(book, known, None)
                at = chance.randrange(many)
                begin, length, total = known[at]
                known[at] = (begin, length, total + chance.choice([-3, -1, 1, 2]))
                wrong = walked_wrong(book, known)
                self.check(book, known, wrong)
                found[wrong is None] = found.get(wrong is None, 0) + 1
        self.assertGreater(min(found.values()), 3)

    def test_at_the_edge_of_what_is_left(self):
        chance = random.Random(64)
        for book in limit_books(64, 25) + SLOW:
            for spread, longest in ((60, 50), (1600, 1600), (FAR, FAR)):
                known = known_sums(chance, book, 11, spread, longest)
                begin, length = chance.randint(-spread, spread), chance.randint(1, longest)
                least, greatest = sure_sums(book, known, begin, length)
                for total in (least, greatest):
                    self.check(book, known + [(begin, length, total)], None)
                for total in (least - 1, greatest + 1):
                    self.check(book, known + [(begin, length, total)], 11)

    def test_errors(self):
        for known, number in (([(0, 3)], 0), ([(0, 3, 1), (0, 3, 1, 1)], 1), ([(0, 3, 1), ()], 1), ([(0, 0, 0)], 0),
                              ([(0, 3, 1), (5, -2, 0), (1, 2)], 1), ([(0, 3, 99), (5, -FAR, 0)], 1)):
            self.assertEqual(caught(first_wrong, BOTH, known), (InvalidKnown, number))
            self.assertEqual(caught(first_wrong, EMPTY, known), (NoRows, (1, 2)))
        self.assertEqual(caught(first_wrong, OTHER_EMPTY, []), (NoRows, (0, 1)))
        self.assertEqual(first_wrong(known=[(0, 3, 2)], book=BOTH), 0)


class SureSumsTest(unittest.TestCase):

    def check(self, book, known, begin, length, told):
        passed = list(known)
        self.assertEqual(sure_sums(book, passed, begin, length), told, (book.rules, known, begin, length))
        self.assertEqual(passed, known)

    def test_nothing_known(self):
        for book in [PLANT, BOTH] + limit_books(70, 20) + SLOW:
            for length in (0, 1, 2, 17, 39, 77, 1555, FAR):
                for begin in (0, -13, FAR, -FAR):
                    self.check(book, [], begin, length, (least_sum(book, length), greatest_sum(book, length)))

    def test_length_0(self):
        for begin in (-FAR, -1, 0, 1, 2, 3, 4, FAR):
            self.check(BOTH, [(0, 3, 1), (5, 2, 0)], begin, 0, (0, 0))

    def test_of_known_stretches(self):
        chance = random.Random(71)
        for book in limit_books(71, 20) + SLOW:
            for spread, longest in ((60, 50), (FAR, FAR)):
                known = known_sums(chance, book, 12, spread, longest)
                for begin, length, total in known:
                    self.check(book, known, begin, length, (total, total))

    def test_told(self):
        self.check(BOTH, [(0, 3, 1)], 3, 4, (1, 2))
        self.check(BOTH, [(0, 3, 1)], 0, 2, (0, 1))
        self.check(BOTH, [(0, 3, 0)], 3, 4, (2, 2))
        self.check(BOTH, [(0, 3, 0)], 3, 1, (1, 1))
        self.check(BOTH, [(0, 3, 0)], -1, 5, (2, 2))
        self.check(BOTH, [(0, 3, 1)], FAR, 4, (1, 2))
        self.check(PLANT, [(0, 7, 2), (7, 7, 2)], -1, 16, (4, 6))
        self.check(PLANT, [(0, 7, 2), (7, 7, 2)], 3, 7, (2, 4))
        self.check(PLANT, [(0, 7, 2), (7, 7, 2), (0, 3, 2)], 3, 7, (2, 2))
        self.check(FREE, [(0, 10, 9)], 3, 3, (2, 3))
        self.check(FREE, [(0, 10, 9), (4, 4, 4)], 8, 9, (1, 9))
        self.check(FREE, [(0, FAR, FAR - 3)], 5, 4, (1, 4))
        self.check(FREE, [(0, FAR, FAR - 3)], -5, FAR + 10, (FAR - 3, FAR + 7))

    def test_against_all_lists(self):
        tried = 0
        for book, known, wrong, rows in tried_cases(72, 300):
            if wrong is not None:
                continue
            for begin in range(8):
                for length in range(8 - begin):
                    sums = sorted({sum(row[begin:begin + length]) for row in rows})
                    self.assertEqual(sums, list(range(sums[0], sums[-1] + 1)))
                    self.check(book, known, begin, length, (sums[0], sums[-1]))
                    self.check(book, moved(known, FAR), begin + FAR, length, (sums[0], sums[-1]))
            tried += 1
        self.assertGreater(tried, 80)

    def test_against_walks(self):
        chance = random.Random(73)
        for book in limit_books(73, 15) + close_books(74, 15) + limit_books(75, 15, rules=3, widest=9):
            known = known_sums(chance, book, chance.choice([1, 2, 4, 12]), 100, 70)
            for begin in (-130, chance.randint(-100, 150), 180):
                up = walked_heights(book, known, begin, -130, 260)
                down = walked_heights(book.turned(), turned_known(known), begin, -130, 260)
                for length in range(0, 260 - begin, 3):
                    self.check(book, known, begin, length, (-down[begin + length], up[begin + length]))

    def test_all_totals_between(self):
        chance = random.Random(76)
        for book in limit_books(76, 15):
            known = known_sums(chance, book, 4, 50, 40)
            begin, length = chance.randint(-60, 80), chance.randint(1, 60)
            least, greatest = sure_sums(book, known, begin, length)
            for total in range(least - 2, greatest + 3):
                wrong = None if least <= total <= greatest else 4
                self.assertEqual(first_wrong(book, known + [(begin, length, total)]), wrong)

    def test_sequence_and_more_known(self):
        chance = random.Random(77)
        for book in limit_books(77, 15) + SLOW:
            for spread, longest in ((60, 50), (FAR, FAR)):
                known = known_sums(chance, book, 12, spread, longest)
                mixed = chance.sample(known, 12)
                for _ in range(6):
                    begin, length = chance.randint(-spread, spread), chance.randint(0, longest)
                    told = sure_sums(book, known, begin, length)
                    self.check(book, mixed, begin, length, told)
                    self.check(book, known + known[:3], begin, length, told)
                    for many in (11, 6, 1, 0):
                        wider = sure_sums(book, known[:many], begin, length)
                        self.assertTrue(wider[0] <= told[0] <= told[1] <= wider[1])
                        told = wider

    def test_far_clusters(self):
        """Two groups of stretches, tied or not: moving one by whole widths changes what lies between by their sums."""
        chance = random.Random(78)
        many = 0
        for book in limit_books(78, 70, rules=3, widest=6):
            turn = 2 * 3 * 2 * 5
            up = greatest_sum(book, 10 * turn) - greatest_sum(book, 9 * turn)
            down = least_sum(book, 10 * turn) - least_sum(book, 9 * turn)
            if up - down < 60:
                continue
            many += 1
            known = known_sums(chance, book, 3, 15, 10)
            others = [(400 + begin, length, total) for begin, length, total in known_sums(chance, book, 3, 15, 10)]
            far = FAR // turn * turn
            tie = []
            if many % 3:
                ends = sure_sums(book, known + others, 3, 400)
                share = up if many % 3 == 1 else down
                total = ends[1] - 2 if many % 3 == 1 else ends[0] + 2
                tie, far_tie = [(3, 400, total)], [(3, 400 + far, total + far // turn * share)]
            near = known + others + tie
            beyond = known + moved(others, far) + (far_tie if tie else [])
            for begin, end in ((-4, 9), (2, 3), (395, 410), (403, 405), (-9, 401), (7, 415)):
                by, told = far if end > 390 else 0, sure_sums(book, near, begin, end - begin)
                walked = walked_heights(book, near, begin, -30, 440)[end]
                self.assertEqual(told[1], walked)
                if begin > 390:
                    self.check(book, beyond, begin + far, end - begin, told)
                elif tie or not by:
                    more = (far_tie[0][2] - total) if by else 0
                    self.check(book, beyond, begin, end - begin + by, (told[0] + more, told[1] + more))
                else:
                    self.check(book, beyond, begin, end - begin + by,
                               (told[0] + far // turn * down, told[1] + far // turn * up))
        self.assertGreater(many, 20)

    def test_turned_and_scaled(self):
        chance = random.Random(79)
        for book in limit_books(79, 15) + SLOW:
            known = known_sums(chance, book, 5, 60, 50)
            great = book.scaled(10 ** 35, -10 ** 33)
            greater = [(begin, length, total * 10 ** 35 - 10 ** 33 * length) for begin, length, total in known]
            for _ in range(8):
                begin, length = chance.randint(-80, 80), chance.randint(0, 80)
                least, greatest = sure_sums(book, known, begin, length)
                self.check(book.turned(), turned_known(known), begin, length, (-greatest, -least))
                self.check(great, greater, begin, length,
                           tuple(total * 10 ** 35 - 10 ** 33 * length for total in (least, greatest)))

    def test_exact_integers(self):
        told = sure_sums(known=[(0, 3, 1)], length=4, book=BOTH, begin=3)
        self.assertEqual((type(told), [type(end) for end in told]), (tuple, [int, int]))

    def test_errors(self):
        for known, number in (([(0, 3)], 0), ([(0, 3, 1), (0, 3, 1, 1)], 1), ([(0, 3, 1), ()], 1), ([(0, 0, 0)], 0),
                              ([(0, 3, 99), (5, -2, 0), (1, 2)], 1), ([(0, 3, 99), (5, -FAR, 0)], 1)):
            for length in (3, -1):
                self.assertEqual(caught(sure_sums, BOTH, known, 0, length), (InvalidKnown, number))
                self.assertEqual(caught(sure_sums, EMPTY, known, 0, length), (NoRows, (1, 2)))
        wrong = [(0, 3, 1), (3, 4, 0), (0, 3, 2)]
        for length in (3, 0, -1):
            self.assertEqual(caught(sure_sums, BOTH, wrong, 0, length), (Contradiction, 1))
            self.assertEqual(caught(sure_sums, OTHER_EMPTY, wrong, 0, length), (NoRows, (0, 1)))
        for length in (-1, -FAR):
            self.assertEqual(caught(sure_sums, BOTH, wrong[:1], 0, length), (InvalidLength, length))
            self.assertEqual(caught(sure_sums, BOTH, [], -FAR, length), (InvalidLength, length))
            self.assertEqual(caught(sure_sums, EMPTY, [], 0, length), (NoRows, (1, 2)))


if __name__ == "__main__":
    unittest.main()
