"""Promises 4 and 6: the texts of books and known sums, and what is read from them."""

import random
import re
import unittest

from everyspan.books import Book
from everyspan.errors import Unreadable
from everyspan.readings import read_book, read_known
from everyspan.texts import show_book, show_known
from tests.helper import limit_books, small_books
from tests.test_books import EMPTY, caught
from tests.test_known import BOTH, FAR

INTEGER = "(?:0|-?[1-9][0-9]{0,39})"
BOOK = re.compile(f"({INTEGER})\\.\\.({INTEGER})((?:; {INTEGER}: {INTEGER}\\.\\.{INTEGER})*)")
RULE = re.compile(f"; ({INTEGER}): ({INTEGER})\\.\\.({INTEGER})")
SUM = re.compile(f"({INTEGER})\\+({INTEGER})=({INTEGER})")
SIGNS = "0123456789-+=.:; ,/_aA~!"


def told_book(text):
    """The low, the high and the rules of the book with a text, by patterns; None if there is none."""
    found = BOOK.fullmatch(text)
    if found is None:
        return None
    low, high = int(found[1]), int(found[2])
    rules = [tuple(map(int, rule)) for rule in RULE.findall(found[3])]
    if low > high or any(width < 1 or least > most for width, least, most in rules):
        return None
    return low, high, rules


def told_known(text):
    """The known sums with a text, by patterns; None if there are none."""
    found = [SUM.fullmatch(part) for part in text.split(" ")]
    if text == "-":
        return []
    if None in found:
        return None
    known = [tuple(map(int, part.groups())) for part in found]
    return None if any(length < 1 for _, length, _ in known) else known


def changed_texts(chance, text, many):
    """Texts that differ from one by a sign or two that are left out, put in, exchanged or doubled."""
    found = []
    for _ in range(many):
        signs = list(text)
        for _ in range(chance.choice([1, 1, 1, 2])):
            at = chance.randrange(len(signs) + 1)
            kind = chance.randrange(4)
            if kind == 0:
                signs[at:at + 1] = []
            elif kind == 1:
                signs.insert(at, chance.choice(SIGNS))
            elif kind == 2:
                signs[at:at + 1] = chance.choice(SIGNS)
            else:
                signs[at:at] = signs[at:at + 1]
        found.append("".join(signs))
    return found


def some_known(chance, many, spread):
    return [(chance.randint(-spread, spread), chance.randint(1, spread), chance.randint(-spread, spread))
            for _ in range(many)]


class BookTextTest(unittest.TestCase):

    def check(self, book, text):
        self.assertEqual(show_book(book), text)
        read = read_book(text)
        self.assertEqual(read, book)
        self.assertEqual((read.low, read.high, read.rules), (book.low, book.high, book.rules))

    def check_unreadable(self, *texts):
        for text in texts:
            self.assertEqual(caught(read_book, text), (Unreadable, text))

    def test_told(self):
        self.check(Book(0, 1, []), "0..1")
        self.check(Book(-2, 5, []), "-2..5")
        self.check(Book(-20, -20, []), "-20..-20")
        self.check(Book(0, 1, [(7, 2, 7), (3, 0, 1)]), "0..1; 7: 2..7; 3: 0..1")
        self.check(Book(-5, -1, [(40, -1000, -1), (1, -7, 0)]), "-5..-1; 40: -1000..-1; 1: -7..0")
        self.check(EMPTY, "0..1; 7: 3..7; 3: 0..1")
        self.check(Book(0, 1, [(3, 0, 1)] * 3), "0..1; 3: 0..1; 3: 0..1; 3: 0..1")

    def test_there_and_back(self):
        for book in limit_books(400, 100) + small_books(401, 200):
            text = f"{book.low}..{book.high}" + "".join(f"; {rule[0]}: {rule[1]}..{rule[2]}" for rule in book.rules)
            self.check(book, text)

    def test_books_without_rows(self):
        for book in small_books(402, 200):
            self.assertEqual(read_book(show_book(book)).conflict(), book.conflict())

    def test_digits(self):
        nines, ones = "9" * 40, "1" + "0" * 39
        self.check(Book(-int(nines), int(nines), []), f"-{nines}..{nines}")
        self.check(Book(0, 1, [(int(ones), -int(ones), int(nines))]), f"0..1; {ones}: -{ones}..{nines}")
        self.check_unreadable(f"0..{nines}9", f"-{nines}9..0", f"{ones}0..{ones}0", f"0..1; {ones}0: 0..1",
                              f"0..1; 3: -{ones}0..1", f"0..1; 3: 0..{nines}0", "0.." + "0" * 41, "0..1" + "0" * 1990)

    def test_wrong_integers(self):
        for word in ("00", "01", "-0", "-00", "-01", "+5", "+0", "-", "--5", "", "5-", "1_0", "a", "0x1", "1e3", "1.0",
                     " 5", "5 ", "1,0", "- 5"):
            self.check_unreadable(f"{word}..9", f"-9..{word}", f"-9..9; {word}: -9..9", f"-9..9; 3: {word}..9",
                                  f"-9..9; 3: -9..{word}", f"-9..9; 3: -9..{word}; 3: 0..1")

    def test_wrong_signs(self):
        self.check_unreadable("", " ", "-", ".", "..", "0", "0.1", "0...1", "0....1", "0..1..2", "0,1", "0:1", "0 .. 1",
                              "0.. 1", "0 ..1", " 0..1", "0..1 ", "0..1;", "0..1; ", ";", "; ", "; 3: 0..1",
                              "0..1;3: 0..1", "0..1;  3: 0..1", "0..1 ; 3: 0..1", "0..1; 3:0..1", "0..1; 3 : 0..1",
                              "0..1; 3:  0..1",
                              "0..1; 3: 0..1;", "0..1; 3: 0..1; ", "0..1; 3: 0..1 ", "0..1; 3: 0 ..1", "0..1; 3: 0..",
                              "0..1; 3: ..1", "0..1; 3: ", "0..1; 3", "0..1; 0..1", "0..1; : 0..1", "0..1; 3: 3: 0..1",
                              "0..1, 3: 0..1", "0..1; 3; 0..1", "0..1: 3: 0..1", "0..1 3: 0..1",
                              "0..1; 3: 0..1 3: 0..1",
                              "0..1; ; 3: 0..1", "3: 0..1", "0..1; 3: 0..1..2", "(0..1)", "0..1; 3: 0...1")

    def test_texts_of_known_sums(self):
        self.check_unreadable("0+3=1", "0+3=1 -7+2=-1", "0..1; 0+3=1", "0+3=1; 3: 0..1")

    def test_no_book_has_these(self):
        self.check_unreadable("1..0", "0..-1", "-1..-2", "5..4; 3: 0..1", "0..1; 0: 0..1", "0..1; -3: 0..1",
                              "0..1; 3: 1..0", "0..1; 3: -1..-2", "0..1; 3: 0..1; 0: 0..0", "0..1; 3: 2..1; 3: 0..1")

    def test_signs_beyond_the_tilde(self):
        self.check_unreadable("0..\u00b2", "0..\u0663", "\u0660..1", "0..1\n", "0..1\u00a0", "0..1; \u0663: 0..1")

    def test_changed_texts(self):
        chance = random.Random(403)
        found = 0
        for book in limit_books(404, 60) + small_books(405, 60):
            for text in changed_texts(chance, show_book(book), 40):
                told = told_book(text)
                if told is None:
                    self.check_unreadable(text)
                else:
                    self.check(Book(*told), text)
                    found += 1
        self.assertGreater(found, 200)

    def test_long_texts(self):
        text = "0..1" + "; 7: 2..7" * 221
        self.assertEqual(len(text), 1993)
        self.check(Book(0, 1, [(7, 2, 7)] * 221), text)
        self.check_unreadable(text + ";", text[:-1], "9" * 2000, "-" * 2000, " " * 2000, "." * 2000, "; " * 1000,
                              "..".join("0" * 667), "0..1; " * 333)

    def test_by_name(self):
        self.assertEqual(show_book(book=BOTH), "0..1; 7: 2..7; 3: 0..1")
        self.assertEqual(read_book(text="0..1; 7: 2..7; 3: 0..1"), BOTH)
        self.assertIs(type(show_book(BOTH)), str)
        self.assertIs(type(read_book("0..1")), Book)
        self.assertEqual([type(rule) for rule in read_book("0..1; 7: 2..7").rules], [tuple])


class KnownTextTest(unittest.TestCase):

    def check(self, known, text):
        passed = list(known)
        self.assertEqual(show_known(passed), text)
        self.assertEqual(passed, known)
        self.assertEqual(read_known(text), known)

    def check_unreadable(self, *texts):
        for text in texts:
            self.assertEqual(caught(read_known, text), (Unreadable, text))

    def test_told(self):
        self.check([], "-")
        self.check([(0, 3, 1)], "0+3=1")
        self.check([(0, 3, 1), (-7, 2, -1)], "0+3=1 -7+2=-1")
        self.check([(-FAR, FAR, -FAR), (FAR, 1, 0)], f"-{FAR}+{FAR}=-{FAR} {FAR}+1=0")

    def test_sums_that_contradict(self):
        self.check([(0, 3, 1), (0, 3, 2)], "0+3=1 0+3=2")
        self.check([(0, 1, 999)] * 12, " ".join(["0+1=999"] * 12))

    def test_there_and_back(self):
        chance = random.Random(406)
        for spread in (3, 1000, FAR, 10 ** 40 - 1):
            for many in range(1, 30):
                known = some_known(chance, many, spread)
                self.check(known, " ".join("%d+%d=%d" % told for told in known))

    def test_new_lists(self):
        for text in ("-", "0+3=1"):
            told = read_known(text)
            kept = list(told)
            told.append(7)
            self.assertEqual(read_known(text), kept)
        self.assertIs(type(read_known("0+3=1")[0]), tuple)

    def test_digits(self):
        nines = "9" * 40
        self.check([(-int(nines), int(nines), -int(nines))], f"-{nines}+{nines}=-{nines}")
        self.check_unreadable(f"{nines}9+3=1", f"-{nines}9+3=1", f"0+{nines}9=1", f"0+3={nines}0", f"0+3=-{nines}0")

    def test_wrong_integers(self):
        for word in ("00", "01", "-0", "-01", "+5", "-", "--5", "", "5-", "1_0", "a", "1.0", " 5", "5 ", "- 5"):
            self.check_unreadable(f"{word}+3=1", f"0+{word}=1", f"0+3={word}", f"0+3=1 {word}+3=1", f"0+3={word} 0+3=1")

    def test_wrong_signs(self):
        self.check_unreadable("", " ", "--", "- ", " -", "- -", "- 0+3=1", "0+3=1 -", "0", "+", "=", "+=", "0+3", "0=3",
                              "0=3+1", "0+3=1=1", "0+3+3=1", "0++3=1", "0+3==1", "0 +3=1", "0+ 3=1", "0+3 =1", "0+3= 1",
                              " 0+3=1", "0+3=1 ", "0+3=1  0+3=1", "0+3=10+3=1", "0+3=1,0+3=1", "0+3=1; 0+3=1", "0-3=1",
                              "0:3=1", "0+3=", "+3=1", "0+=1", "0+3=1 0+3", "0+3=1 =", "(0,3,1)")

    def test_texts_of_books(self):
        self.check_unreadable("0..1", "-2..5", "0..1; 7: 2..7", "0+3=1 0..1", "0..1; 0+3=1")

    def test_lengths(self):
        self.check([(0, 1, 0)], "0+1=0")
        self.check_unreadable("0+0=0", "0+-1=0", "0+-3=1", "0+3=1 0+0=0", "0+0=0 0+3=1")

    def test_signs_beyond_the_tilde(self):
        self.check_unreadable("0+\u00b2=1", "\u0663+3=1", "0+3=1\n", "0+3=1\n0+3=1", "0+3=1\u00a00+3=1", "\u2212")

    def test_changed_texts(self):
        chance = random.Random(407)
        found = 0
        for many in [0] + [1, 2, 3] * 40:
            text = show_known(some_known(chance, many, chance.choice([3, 50, FAR])))
            for other in changed_texts(chance, text, 40):
                told = told_known(other)
                if told is None:
                    self.check_unreadable(other)
                else:
                    self.check(told, other)
                    found += 1
        self.assertGreater(found, 200)

    def test_long_texts(self):
        text = " ".join(["0+3=1"] * 333)
        self.assertEqual(len(text), 1997)
        self.check([(0, 3, 1)] * 333, text)
        self.check_unreadable(text + " ", " " + text, text[:-1], text + "+", "9" * 2000, "-" * 2000, " " * 2000,
                              "0+3=1" * 400, "+" * 2000, "- " * 1000)

    def test_by_name(self):
        self.assertEqual(show_known(known=[(0, 3, 1)]), "0+3=1")
        self.assertEqual(read_known(text="0+3=1"), [(0, 3, 1)])
        self.assertIs(type(show_known([])), str)


if __name__ == "__main__":
    unittest.main()
