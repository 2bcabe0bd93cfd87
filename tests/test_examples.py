"""The examples of the document, word for word."""

import unittest


class ExamplesTest(unittest.TestCase):

    def test_spans(self):
        from everyspan.books import Book
        from everyspan.spans import greatest_sum, least_sum, shares
        plant, both = Book(0, 1, [(7, 2, 7)]), Book(0, 1, [(7, 2, 7), (3, 0, 1)])
        told = [[least_sum(plant, length) for length in (7, 10, 13, 14)], greatest_sum(plant, 10), least_sum(plant, 10 ** 30) == 2 * (10 ** 30 - 1) // 7, shares(both), least_sum(both, 4), [greatest_sum(both, length) for length in (7, 8, 9, 10)], Book(0, 1, [(7, 3, 7), (3, 0, 1)]).conflict(), both.turned().rules]
        self.assertEqual(repr(told), "[[2, 2, 3, 4], 10, True, ((2, 7), (1, 3)), 1, [3, 3, 3, 4], (1, 2), [(7, -7, -2), (3, -1, 0)]]")

    def test_plain(self):
        from everyspan.books import Book
        from everyspan.plain import first_unlike, is_needless, kept_rules, same_rows, tells
        from everyspan.strict import strictest_least, strictest_most
        plant, pairs = Book(0, 1, [(7, 2, 7)]), Book(0, 1, [(2, 1, 2), (4, 2, 4)])
        told = [tells(plant, (14, 4, 14)), tells(plant, (13, 4, 13)), is_needless(pairs, 1), is_needless(pairs, 0), kept_rules(pairs), same_rows(pairs, Book(0, 1, [(2, 1, 2)])), first_unlike(plant, Book(0, 1, [(7, 2, 3)])), first_unlike(plant, Book(0, 1, [(6, 1, 6)])), strictest_least(plant, 10), strictest_most(plant, 10)]
        self.assertEqual(repr(told), "[True, False, True, False, [(2, 1, 2)], True, (4, 'greatest'), (7, 'least'), 10, 3]")

    def test_known(self):
        from everyspan.books import Book
        from everyspan.early import early_day, early_days, early_place, late_days
        from everyspan.known import first_wrong, sure_sums
        both = Book(0, 1, [(7, 2, 7), (3, 0, 1)])
        told = [sure_sums(both, [(0, 3, 1)], 3, 4), sure_sums(both, [], 10 ** 30, 7), first_wrong(both, [(0, 3, 1), (3, 4, 0)]), early_days(both, [], 5, 7), late_days(both, [], 5, 7), early_day(both, [], 0, 3 * 10 ** 29), early_place(both, [], 0, 4), early_days(both, [(2, 1, 1)], 0, 5)]
        self.assertEqual(repr(told), "[(1, 2), (2, 3), 1, [1, 0, 0, 1, 0, 0, 1], [0, 0, 0, 1, 0, 0, 1], 1, 9, [0, 0, 1, 0, 0]]")

    def test_seen(self):
        from everyspan.books import Book
        from everyspan.counts import count_stretches, nth_stretch, stretch_index
        from everyspan.seen import first_lost, next_days, stands
        plant, both = Book(0, 1, [(7, 2, 7)]), Book(0, 1, [(7, 2, 7), (3, 0, 1)])
        told = [first_lost(both, [1, 1]), next_days(plant, [0, 0, 0, 0, 0]), next_days(plant, [1, 0, 0, 0, 0]), stands(both, [0, 0, 0, 1]), stands(both, [0, 0, 0, 0]), next_days(both, [0, 0, 0, 0]), count_stretches(both, 3), nth_stretch(both, 3, 1), stretch_index(both, [1, 0, 0]), count_stretches(both, 0)]
        self.assertEqual(repr(told), "[1, (1, 1), (0, 1), True, False, None, 4, [0, 0, 1], 3, 1]")

    def test_planners(self):
        from everyspan.books import Book
        from everyspan.planners import Planner, ShortPlanner
        planner = Planner(Book(0, 1, [(7, 2, 7)]))
        told = [planner.know(0, 3, 1), planner.sure(3, 4), planner.bind((3, 0, 1)), planner.sure(3, 4), planner.known, len(planner.book.rules), planner.undo(), planner.forget(0), len(planner), planner.story(), planner == ShortPlanner(planner.book, 3)]
        self.assertEqual(repr(told), "[None, (1, 4), None, (1, 2), [(0, 3, 1)], 2, None, None, 0, [('know', 0, 3, 1), ('forget', 0)], False]")

    def test_texts(self):
        from everyspan.books import Book
        from everyspan.readings import read_book, read_known
        from everyspan.texts import show_book, show_known
        told = [show_book(Book(0, 1, [(7, 2, 7), (3, 0, 1)])), show_book(Book(-2, 5, [])), show_known([(0, 3, 1), (-7, 2, -1)]), show_known([]), read_book('0..1; 7: 2..7').rules, read_known('0+3=1')]
        self.assertEqual(repr(told), "['0..1; 7: 2..7; 3: 0..1', '-2..5', '0+3=1 -7+2=-1', '-', [(7, 2, 7)], [(0, 3, 1)]]")


if __name__ == "__main__":
    unittest.main()
