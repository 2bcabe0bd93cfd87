"""Promises 2, 3 and 6: planners, what they know, forget, bind and undo, their errors, and when they are equal."""

import random
import unittest

from everyspan.books import Book
from everyspan.errors import (Contradiction, InvalidLength, InvalidNumber, InvalidRule, NoRows, NothingToUndo,
                              SpanError, TooMany)
from everyspan.known import first_wrong, sure_sums
from everyspan.planners import Planner, ShortPlanner
from everyspan.spans import greatest_sum, least_sum
from tests.helper import limit_books, small_books, tried_rows
from tests.test_books import EMPTY, caught
from tests.test_known import BOTH, FAR, FREE, OTHER_EMPTY, PLANT

THREE, NONE_OF_THREE = (3, 0, 1), (3, 3, 3)


def state(planner):
    """All that a planner tells, with what is sure near and far."""
    stretches = [(0, 0), (0, 1), (3, 4), (-9, 30), (FAR, 7), (-FAR, FAR)]
    return (planner.book.low, planner.book.high, planner.book.rules, planner.known, len(planner), planner.story(),
            [planner.sure(*stretch) for stretch in stretches])


class Model:
    """A planner in the plainest words: all calls that are not taken back, done again from the beginning."""

    def __init__(self, book, most=None):
        self.first, self.most, self.calls = book, most, []

    def now(self):
        book, known = self.first, []
        for word, *rest in self.calls:
            if word == "know":
                known.append(tuple(rest))
            elif word == "forget":
                del known[rest[0]]
            else:
                book = Book(book.low, book.high, book.rules + rest)
        return book, known

    def error(self, word, *rest):
        """The class and the value of the error that a call must raise, None for none."""
        book, known = self.now()
        if word == "know":
            return self.known_error(book, known, rest)
        if word == "forget":
            return None if rest[0] in range(len(known)) else (InvalidNumber, rest[0])
        if word == "bind":
            return self.bound_error(book, known, rest[0])
        return None if self.calls else (NothingToUndo, 0)

    def known_error(self, book, known, told):
        if told[1] < 1:
            return InvalidLength, told[1]
        if self.most is not None and len(known) + 1 > self.most:
            return TooMany, len(known) + 1
        return None if first_wrong(book, known + [told]) is None else (Contradiction, len(known))

    def bound_error(self, book, known, rule):
        if rule[0] < 1 or rule[1] > rule[2]:
            return InvalidRule, len(book.rules)
        book = Book(book.low, book.high, book.rules + [rule])
        if not book.has_rows():
            return NoRows, book.conflict()
        wrong = first_wrong(book, known)
        return None if wrong is None else (Contradiction, wrong)

    def go_on(self, word, *rest):
        if word == "undo":
            self.calls.pop()
        else:
            self.calls.append((word, *rest))


def some_call(chance, planner, spread, longest):
    """A call of a planner with its arguments, many of them at the edge of what is refused."""
    word = chance.choice(["know"] * 5 + ["forget", "bind", "bind", "undo"])
    if word == "know":
        begin, length = chance.randint(-spread, spread), chance.randint(1, longest)
        least, greatest = planner.sure(begin, length)
        total = chance.choice([least - 1, least, greatest, greatest + 1] + [chance.randint(least, greatest)] * 4)
        return word, begin, chance.choice([length] * 12 + [0, -length]), total
    if word == "forget":
        return word, chance.randint(-1, len(planner))
    if word == "bind":
        width = chance.randint(1, 6)
        least, greatest = least_sum(planner.book, width), greatest_sum(planner.book, width)
        ends = sorted([chance.randint(least - 1, greatest + 1), chance.choice([least - 1, greatest + 1])])
        return word, chance.choice([(width, ends[0], ends[1])] * 8 + [(width, ends[1] + 1, ends[1]), (0, 0, 5)])
    return word,


class PlannerTest(unittest.TestCase):

    def check_undo(self, planner, states):
        """All calls are taken back one by one; states are those ahead of each call."""
        for before in reversed(states):
            self.assertIsNone(planner.undo())
            self.assertEqual(state(planner), before)
        self.assertEqual(caught(planner.undo), (NothingToUndo, 0))
        self.assertEqual(state(planner), states[0])

    def test_new(self):
        for planner in (Planner(BOTH), ShortPlanner(BOTH, 3)):
            self.assertEqual((planner.book, planner.known, planner.story(), len(planner)), (BOTH, [], [], 0))
            self.assertEqual(planner.sure(5, 7), (2, 3))
            self.assertEqual(caught(planner.undo), (NothingToUndo, 0))

    def test_calls_return_none(self):
        for planner in (Planner(PLANT), ShortPlanner(PLANT, 3)):
            told = [planner.know(0, 3, 1), planner.bind(THREE), planner.know(3, 1, 0), planner.forget(0),
                    planner.undo()]
            self.assertEqual(told, [None] * 5)
            self.assertEqual(planner.known, [(0, 3, 1), (3, 1, 0)])
            self.assertEqual(planner.book, BOTH)
            self.assertEqual(planner.story(), [("know", 0, 3, 1), ("bind", THREE), ("know", 3, 1, 0)])

    def test_known_sums_keep_their_sequence(self):
        planner = Planner(FREE)
        known = [(5, 1, 1), (0, 3, 2), (-4, 2, 0), (FAR, 9, 9), (5, 1, 1)]
        for number, told in enumerate(known):
            planner.know(*told)
            self.assertEqual(planner.known, known[:number + 1])
            self.assertEqual(len(planner), number + 1)
        planner.forget(2)
        self.assertEqual(planner.known, known[:2] + known[3:])
        planner.forget(0)
        planner.forget(2)
        self.assertEqual(planner.known, [known[1], known[3]])
        self.assertEqual(planner.story()[-3:], [("forget", 2), ("forget", 0), ("forget", 2)])
        for many in (3, 4, 5):
            planner.undo()
            self.assertEqual(len(planner), many)
        self.assertEqual(planner.known, known)

    def test_a_sum_that_the_others_tell(self):
        """It stays when those that told it are forgotten."""
        planner = Planner(BOTH)
        for told in ((0, 3, 1), (3, 4, 2), (0, 7, 3), (1, 1, 0)):
            planner.know(*told)
        planner.forget(0)
        planner.forget(0)
        self.assertEqual(planner.known, [(0, 7, 3), (1, 1, 0)])
        self.assertEqual(planner.sure(0, 7), (3, 3))
        self.assertEqual(planner.sure(3, 4), sure_sums(BOTH, [(0, 7, 3), (1, 1, 0)], 3, 4))
        self.assertEqual(caught(planner.know, 0, 7, 2), (Contradiction, 2))

    def test_bound_rules(self):
        planner = Planner(Book(0, 1, [(7, 2, 7)]))
        for rule, greatest in (((14, 4, 14), 7), ((7, 0, 6), 6), ((3, 0, 1), 3), ((3, -1, 5), 3), ((7, 2, 2), 2)):
            self.assertIsNone(planner.bind(rule))
            self.assertEqual(planner.book.rules[-1], rule)
            self.assertEqual(planner.sure(FAR, 7), (2, greatest))
        self.assertEqual(planner.book.rules, [(7, 2, 7), (14, 4, 14), (7, 0, 6), (3, 0, 1), (3, -1, 5), (7, 2, 2)])
        planner.undo()
        planner.undo()
        self.assertEqual(planner.book.rules, [(7, 2, 7), (14, 4, 14), (7, 0, 6), (3, 0, 1)])
        self.assertEqual(planner.sure(FAR, 7), (2, 3))

    def test_told_lists_are_new(self):
        planner = Planner(BOTH)
        planner.know(0, 3, 1)
        planner.bind((9, 0, 3))
        before = state(planner)
        for told in (planner.known, planner.story(), planner.book.rules):
            told[0] = ("know", 9, 9, 9)
            told.append(7)
        self.assertEqual(state(planner), before)
        self.assertIsNot(planner.known, planner.known)
        self.assertIsNot(planner.story(), planner.story())
        self.assertIs(type(planner.sure(0, 3)), tuple)
        self.assertTrue(all(type(call) is tuple for call in planner.story()))

    def test_parts_cannot_be_assigned(self):
        for name in ("book", "known"):
            with self.assertRaises(AttributeError):
                setattr(Planner(BOTH), name, [])

    def test_sure(self):
        planner = Planner(BOTH)
        planner.know(0, 3, 1)
        self.assertEqual([planner.sure(3, 4), planner.sure(0, 3), planner.sure(0, 0), planner.sure(-FAR, 0)],
                         [(1, 2), (1, 1), (0, 0), (0, 0)])
        planner.know(FAR, FAR, FAR // 3)
        known = planner.known
        for begin, length in ((FAR, FAR - 1), (FAR + 5, FAR), (-FAR, FAR), (0, FAR), (2 * FAR, 7), (FAR, 1)):
            self.assertEqual(planner.sure(begin, length), sure_sums(BOTH, known, begin, length))

    def test_takes_just_the_sure_totals(self):
        chance = random.Random(300)
        books = [book for book in small_books(301, 60) if book.has_rows()]
        for book in books + limit_books(302, 15):
            planner = Planner(book)
            for number in range(5):
                begin, length = chance.randint(-20, 20), chance.randint(1, 15)
                least, greatest = planner.sure(begin, length)
                for total in (least - 1, greatest + 1, least - 1000, greatest + FAR):
                    self.assertEqual(caught(planner.know, begin, length, total), (Contradiction, number))
                for total in {least, greatest, (least + greatest) // 2}:
                    self.assertIsNone(planner.know(begin, length, total))
                    self.assertEqual(planner.sure(begin, length), (total, total))
                    planner.undo()
                planner.know(begin, length, chance.randint(least, greatest))

    def test_against_all_lists(self):
        chance = random.Random(303)
        for book in small_books(304, 80):
            if not book.has_rows():
                continue
            planner, rows = Planner(book), tried_rows(book, 4, 7)
            for _ in range(4):
                begin = chance.randrange(7)
                length = chance.randint(1, 7 - begin)
                sums = {sum(row[begin:begin + length]) for row in rows}
                self.assertEqual(planner.sure(begin, length), (min(sums), max(sums)))
                total = chance.choice(sorted(sums))
                planner.know(begin, length, total)
                rows = [row for row in rows if sum(row[begin:begin + length]) == total]

    def test_by_turns(self):
        """Long rows of calls, refused ones among them, of several planners of one book."""
        chance = random.Random(305)
        refused = set()
        books = [book for book in small_books(306, 40) if book.has_rows()] + limit_books(307, 12) + [BOTH, PLANT]
        for book in books:
            limits = [None, None, 0, 1, 3]
            planners = [Planner(book) if most is None else ShortPlanner(book, most) for most in limits]
            models = [Model(book, most) for most in limits]
            for _ in range(90):
                turn = chance.randrange(len(planners))
                planner, model = planners[turn], models[turn]
                spread, longest = chance.choice([(8, 8), (60, 50), (FAR, FAR)])
                word, *rest = some_call(chance, planner, spread, longest)
                before, due = state(planner), model.error(word, *rest)
                self.assertEqual(caught(getattr(planner, word), *rest), due, (book.rules, planner.story(), word, rest))
                if due is None:
                    model.go_on(word, *rest)
                else:
                    refused.add(due[0])
                    self.assertEqual(state(planner), before)
                now, known = model.now()
                self.assertEqual((planner.book, planner.known, planner.story()), (now, known, model.calls))
                begin, length = chance.randint(-spread, spread), chance.randint(0, longest)
                self.assertEqual(planner.sure(begin, length), sure_sums(now, known, begin, length))
                self.assertEqual(len(planner), len(known))
        self.assertEqual(refused, {InvalidLength, TooMany, Contradiction, InvalidNumber, InvalidRule, NoRows,
                                   NothingToUndo})

    def test_undo_to_the_beginning(self):
        chance = random.Random(308)
        for book in limit_books(309, 8) + [BOTH, PLANT, FREE]:
            planner = Planner(book)
            states = []
            for _ in range(40):
                before = state(planner)
                word, *rest = some_call(chance, planner, 40, 30)
                if word != "undo" and caught(getattr(planner, word), *rest) is None:
                    states.append(before)
            self.assertGreater(len(states), 10)
            self.check_undo(planner, states)
            planner.know(0, 1, book.high if book == FREE else planner.sure(0, 1)[0])
            self.assertEqual(len(planner.story()), 1)

    def test_undo_behind_refused_calls(self):
        planner = Planner(PLANT)
        planner.know(0, 3, 1)
        planner.bind(THREE)
        for call in (lambda: planner.know(0, 3, 0), lambda: planner.forget(1), lambda: planner.bind((0, 0, 1)),
                     lambda: planner.bind(NONE_OF_THREE), lambda: planner.know(1, 0, 0), lambda: planner.sure(0, -1)):
            with self.assertRaises(SpanError):
                call()
        planner.undo()
        self.assertEqual((planner.book, planner.known), (PLANT, [(0, 3, 1)]))
        self.assertEqual(caught(planner.forget, -1), (InvalidNumber, -1))
        planner.undo()
        self.assertEqual((planner.book, planner.known, planner.story()), (PLANT, [], []))

    def test_undo_is_not_undone(self):
        planner = Planner(FREE)
        planner.know(0, 1, 0)
        planner.know(1, 1, 0)
        planner.undo()
        planner.undo()
        self.assertEqual(planner.known, [])
        self.assertEqual(caught(planner.undo), (NothingToUndo, 0))
        planner.know(2, 1, 1)
        self.assertEqual(planner.story(), [("know", 2, 1, 1)])

    def test_several_planners_of_one_book(self):
        book = Book(0, 1, [(7, 2, 7)])
        one, other = Planner(book), Planner(book)
        one.bind(THREE)
        one.know(0, 3, 1)
        self.assertEqual((other.book.rules, other.known, other.sure(0, 3)), ([(7, 2, 7)], [], (0, 3)))
        other.know(0, 3, 3)
        self.assertEqual((one.known, one.sure(0, 3), other.sure(0, 3)), ([(0, 3, 1)], (1, 1), (3, 3)))
        self.assertEqual(book.rules, [(7, 2, 7)])

    def test_a_list_of_rules_that_is_changed_later(self):
        rules = [(7, 2, 7)]
        planner = Planner(Book(0, 1, rules))
        rules.append(THREE)
        planner.know(0, 2, 2)
        self.assertEqual(planner.book.rules, [(7, 2, 7)])

    def test_by_name(self):
        planner = Planner(book=PLANT)
        planner.know(total=1, length=3, begin=0)
        planner.bind(rule=THREE)
        self.assertEqual(planner.sure(length=4, begin=3), (1, 2))
        planner.forget(number=0)
        self.assertEqual(planner.story(), [("know", 0, 3, 1), ("bind", THREE), ("forget", 0)])
        short = ShortPlanner(most=1, book=PLANT)
        short.know(total=1, length=3, begin=0)
        self.assertEqual(caught(short.know, total=1, length=3, begin=0), (TooMany, 2))


class PlannerErrorsTest(unittest.TestCase):

    def check(self, planner, due, call, *rest):
        """A call raises what is due, and changes nothing."""
        before = state(planner)
        self.assertEqual(caught(call, *rest), due)
        self.assertEqual(state(planner), before)

    def test_no_rows(self):
        for call in (Planner, lambda book: ShortPlanner(book, 1), lambda book: ShortPlanner(book, -1)):
            self.assertEqual(caught(call, EMPTY), (NoRows, (1, 2)))
            self.assertEqual(caught(call, OTHER_EMPTY), (NoRows, (0, 1)))

    def test_know(self):
        planner = Planner(BOTH)
        for length in (0, -1, -FAR):
            for total in (0, 1, FAR):
                self.check(planner, (InvalidLength, length), planner.know, 0, length, total)
        self.check(planner, (Contradiction, 0), planner.know, 0, 3, 2)
        planner.know(0, 3, 1)
        self.check(planner, (Contradiction, 1), planner.know, 0, 3, 0)
        self.check(planner, (Contradiction, 1), planner.know, 3, 4, 0)
        planner.know(3, 4, 1)
        self.check(planner, (Contradiction, 2), planner.know, 0, 7, 3)
        self.check(planner, (InvalidLength, 0), planner.know, 0, 0, 1)

    def test_forget(self):
        planner = Planner(BOTH)
        for number in (0, -1, 1, FAR):
            self.check(planner, (InvalidNumber, number), planner.forget, number)
        planner.know(0, 3, 1)
        planner.know(9, 3, 0)
        for number in (-1, -2, 2, 3, FAR, -FAR):
            self.check(planner, (InvalidNumber, number), planner.forget, number)

    def test_bind(self):
        planner = Planner(PLANT)
        planner.know(5, 1, 1)
        planner.know(0, 3, 2)
        planner.know(6, 1, 1)
        for number in (1, 2):
            for rule in ((0, 0, 1), (-7, 2, 7), (3, 2, 1), (0, 5, 4), (-FAR, 0, 0)):
                self.check(planner, (InvalidRule, number), planner.bind, rule)
            self.check(planner, (NoRows, (0, number + 1)), planner.bind, (7, -9, -1))
            self.check(planner, (NoRows, (1, number + 1)), planner.bind, (7, 0, 1))
            self.check(planner, (NoRows, (number + 1, 0)), planner.bind, (7, 8, 9))
            self.check(planner, (Contradiction, 1), planner.bind, THREE)
            self.check(planner, (Contradiction, 2), planner.bind, (2, 0, 1))
            planner.bind((9, 1, 9))
        # The third sum contradicts the first one, whatever stands between them.
        planner.forget(1)
        self.check(planner, (Contradiction, 1), planner.bind, (2, 0, 1))
        planner.forget(1)
        planner.bind((2, 0, 1))
        self.assertEqual(planner.book.rules, [(7, 2, 7), (9, 1, 9), (9, 1, 9), (2, 0, 1)])

    def test_bind_a_conflict_further_ahead(self):
        """The first conflict of the book with the rule, as Python compares tuples."""
        planner = Planner(Book(0, 9, [(2, 8, 18), (3, 12, 27)]))
        self.check(planner, (NoRows, (1, 3)), planner.bind, (5, 0, 19))
        self.check(planner, (NoRows, (3, 0)), planner.bind, (1, 10, 12))

    def test_sure(self):
        planner = Planner(BOTH)
        for length in (-1, -FAR):
            self.check(planner, (InvalidLength, length), planner.sure, 0, length)

    def test_undo(self):
        planner = Planner(BOTH)
        self.check(planner, (NothingToUndo, 0), planner.undo)
        self.check(planner, (Contradiction, 0), planner.know, 0, 3, 2)
        self.check(planner, (NothingToUndo, 0), planner.undo)


class ShortPlannerTest(unittest.TestCase):

    def test_is_a_planner(self):
        self.assertTrue(issubclass(ShortPlanner, Planner))
        self.assertIsInstance(ShortPlanner(BOTH, 2), Planner)
        self.assertNotIsInstance(Planner(BOTH), ShortPlanner)
        self.assertIn("know", vars(ShortPlanner))

    def test_most(self):
        for most in (-1, -7, -FAR):
            self.assertEqual(caught(ShortPlanner, BOTH, most), (InvalidNumber, most))
            self.assertEqual(caught(ShortPlanner, EMPTY, most), (NoRows, (1, 2)))
        for most in (0, 1, 2, 5):
            planner = ShortPlanner(FREE, most)
            for number in range(most):
                planner.know(number, 1, 1)
            before = state(planner)
            for told in ((0, 1, 1), (0, 1, 0), (50, 2, 1), (50, 2, 9)):
                self.assertEqual(caught(planner.know, *told), (TooMany, most + 1))
            for length in (0, -3):
                self.assertEqual(caught(planner.know, 0, length, 0), (InvalidLength, length))
            self.assertEqual(state(planner), before)

    def test_contradiction_where_there_is_room(self):
        planner = ShortPlanner(BOTH, 2)
        planner.know(0, 3, 1)
        self.assertEqual(caught(planner.know, 0, 3, 0), (Contradiction, 1))
        self.assertEqual(caught(planner.know, 0, 0, 0), (InvalidLength, 0))
        planner.know(3, 3, 1)
        self.assertEqual(caught(planner.know, 0, 3, 0), (TooMany, 3))

    def test_room_again(self):
        planner = ShortPlanner(FREE, 2)
        planner.know(0, 1, 1)
        planner.know(1, 1, 1)
        self.assertEqual(caught(planner.know, 2, 1, 1), (TooMany, 3))
        planner.forget(0)
        planner.know(2, 1, 1)
        self.assertEqual(planner.known, [(1, 1, 1), (2, 1, 1)])
        self.assertEqual(caught(planner.know, 3, 1, 1), (TooMany, 3))
        planner.undo()
        planner.know(3, 1, 0)
        self.assertEqual(planner.known, [(1, 1, 1), (3, 1, 0)])
        planner.bind((2, 0, 1))
        self.assertEqual(caught(planner.know, 4, 1, 1), (TooMany, 3))

    def test_as_a_planner_in_all_else(self):
        chance = random.Random(310)
        for book in limit_books(311, 8) + [BOTH]:
            one, short = Planner(book), ShortPlanner(book, 100)
            for _ in range(40):
                word, *rest = some_call(chance, one, 40, 30)
                self.assertEqual(caught(getattr(one, word), *rest), caught(getattr(short, word), *rest))
                self.assertEqual(state(one), state(short))


class EqualTest(unittest.TestCase):

    def check(self, one, other, equal):
        self.assertIs(one == other, equal)
        self.assertIs(other == one, equal)
        self.assertIs(one != other, not equal)
        self.assertIs(other != one, not equal)

    def test_the_same_calls(self):
        for make in (Planner, lambda book: ShortPlanner(book, 2)):
            one, other = make(Book(0, 1, [(7, 2, 7)])), make(PLANT)
            self.check(one, one, True)
            self.check(one, other, True)
            for word, *rest in (("know", 0, 3, 1), ("bind", THREE), ("know", 5, 1, 0), ("forget", 0)):
                getattr(one, word)(*rest)
                self.check(one, other, False)
                getattr(other, word)(*rest)
                self.check(one, other, True)
            one.undo()
            self.check(one, other, False)
            other.undo()
            self.check(one, other, True)

    def test_calls_that_were_taken_back_or_refused(self):
        one, other = Planner(BOTH), Planner(BOTH)
        one.know(0, 3, 1)
        one.undo()
        self.check(one, other, True)
        caught(one.know, 0, 3, 2)
        self.check(one, other, True)

    def test_another_story(self):
        one, other = Planner(BOTH), Planner(BOTH)
        one.know(0, 3, 1)
        one.forget(0)
        self.assertEqual((one.book, one.known), (other.book, other.known))
        self.check(one, other, False)
        # The same known sums, but the first one was forgotten and known again.
        one, other = Planner(FREE), Planner(FREE)
        for planner in (one, other):
            planner.know(0, 1, 1)
        one.forget(0)
        one.know(0, 1, 1)
        self.check(one, other, False)

    def test_another_book(self):
        self.check(Planner(BOTH), Planner(PLANT), False)
        bound = Planner(PLANT)
        bound.bind(THREE)
        self.assertEqual(bound.book, BOTH)
        self.check(bound, Planner(BOTH), False)
        # The same calls lead to other books, with the same rows.
        self.check(Planner(Book(0, 1, [(2, 0, 2)])), Planner(FREE), False)

    def test_other_known_sums(self):
        one, other = Planner(FREE), Planner(FREE)
        one.know(0, 2, 1)
        other.know(0, 2, 2)
        self.check(one, other, False)
        one, other = Planner(FREE), Planner(FREE)
        for told in ((0, 1, 1), (1, 1, 1)):
            one.know(*told)
        for told in ((1, 1, 1), (0, 1, 1)):
            other.know(*told)
        self.check(one, other, False)

    def test_limits(self):
        self.check(ShortPlanner(BOTH, 2), ShortPlanner(BOTH, 2), True)
        self.check(ShortPlanner(BOTH, 2), ShortPlanner(BOTH, 3), False)
        for most in (0, 1, 12, FAR):
            self.check(Planner(BOTH), ShortPlanner(BOTH, most), False)
        one, other = ShortPlanner(BOTH, 2), Planner(BOTH)
        for planner in (one, other):
            planner.know(0, 3, 1)
        self.check(one, other, False)

    def test_other_things(self):
        planner = Planner(BOTH)
        planner.know(0, 3, 1)
        for make in (Planner, lambda book: ShortPlanner(book, 0)):
            for other in (BOTH, [], 0, None, "", (), planner.known, planner.story(), 1, object(), Planner):
                self.check(make(BOTH), other, False)
                self.check(planner, other, False)


if __name__ == "__main__":
    unittest.main()
