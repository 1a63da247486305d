"""[0.2] (i), [11.1]: clocks of hands, what is newer, and books kept to a clock."""

import inspect
import itertools
import random
import unittest

from helper import (add, drop, kinds_of, mark, named_by, random_books, random_marked_books, random_part, sign, undo,
                    unmark)
from staymark.clocks import clock_of, kept_to, later_clock, newer
from staymark.deeds import is_book
from staymark.joining import joined

ONE = add(1, "a", None, "abc")
TWO = add(2, "b", sign(1, "a", 0), "xy")
DROP = drop(3, "a", sign(2, "b", 0))
UNDO = undo(4, "h", (3, "a"))
LAST = unmark(4, "a", "x")
BOOK = (ONE, TWO, DROP, LAST, UNDO)
ZEROS = (0, 0, 0, 0, 0, 0, 0, 0)


def clock(a=0, b=0, h=0):
    return (a, b, 0, 0, 0, 0, 0, h)


def newer_by_words(book, numbers):
    by_hand = dict(zip("abcdefgh", numbers))
    return [deed for deed in book if deed[1][0] > by_hand[deed[1][1]]]


def kept_by_words(book, numbers):
    """Left out again and again, until none names what is left out."""
    gone = {deed[1] for deed in newer_by_words(book, numbers)}
    while True:
        more = {deed[1] for deed in book if deed[1] not in gone and gone & set(named_by(deed))}
        if not more:
            return tuple(deed for deed in book if deed[1] not in gone)
        gone |= more


def random_clock(source, book):
    """About as late as the book, with some hands behind it and some beyond it."""
    greatest = max([deed[1][0] for deed in book], default=1)
    return tuple(source.randint(0, greatest + 2) for _ in range(8))


class Interface(unittest.TestCase):
    def test_arguments(self):
        for function, many in {clock_of: 1, newer: 2, later_clock: 2, kept_to: 2}.items():
            self.assertEqual(len(inspect.signature(function).parameters), many, function.__name__)

    def test_kinds(self):
        told = [clock_of(BOOK), newer(BOOK, clock(3, 9)), later_clock(clock(1), clock(0, 2)), kept_to(BOOK, clock(1))]
        self.assertEqual(kinds_of(told), kinds_of([clock(4, 2, 4), [LAST, UNDO], clock(1, 2), (ONE,)]))


class ClockOf(unittest.TestCase):
    def test_a_book_without_deeds(self):
        self.assertEqual(clock_of(()), ZEROS)

    def test_hands_without_deeds(self):
        self.assertEqual(clock_of((ONE,)), (1, 0, 0, 0, 0, 0, 0, 0))
        self.assertEqual(clock_of((unmark(7, "h", "x"),)), (0, 0, 0, 0, 0, 0, 0, 7))

    def test_several_deeds_of_one_hand(self):
        self.assertEqual(clock_of(BOOK), (4, 2, 0, 0, 0, 0, 0, 4))

    def test_each_hand(self):
        book = tuple(unmark(time, hand, "x") for time, hand in enumerate("habgcfde", 1))
        self.assertEqual(clock_of(book), (2, 3, 5, 7, 8, 6, 4, 1))

    def test_random_books(self):
        for book in random_books(60):
            wanted = tuple(max([deed[1][0] for deed in book if deed[1][1] == hand], default=0) for hand in "abcdefgh")
            with self.subTest(book=book):
                self.assertEqual(clock_of(book), wanted)


class Newer(unittest.TestCase):
    def test_the_own_clock(self):
        for book in [(), BOOK] + random_books(20):
            self.assertEqual(newer(book, clock_of(book)), [])

    def test_zeros(self):
        self.assertEqual((newer(BOOK, ZEROS), newer((), ZEROS)), (list(BOOK), []))

    def test_lesser_and_greater(self):
        self.assertEqual(newer(BOOK, clock(3, 2, 4)), [LAST])
        self.assertEqual(newer(BOOK, clock(2, 2, 4)), [DROP, LAST])
        self.assertEqual(newer(BOOK, clock(0, 2, 3)), [ONE, DROP, LAST, UNDO])
        self.assertEqual(newer(BOOK, clock(5, 1, 9)), [TWO])

    def test_beyond_all_times(self):
        self.assertEqual(newer(BOOK, (999999,) * 8), [])

    def test_each_by_its_own_hand(self):
        self.assertEqual(newer(BOOK, clock(99)), [TWO, UNDO])
        self.assertEqual(newer(BOOK, (0, 0, 99, 99, 99, 99, 99, 0)), list(BOOK))

    def test_a_deed_is_not_newer_for_what_it_names(self):
        self.assertEqual(newer(BOOK, clock(4, 0, 4)), [TWO])

    def test_random_books(self):
        source = random.Random(61)
        for book in random_books(60):
            numbers = random_clock(source, book)
            with self.subTest(book=book, numbers=numbers):
                self.assertEqual(newer(book, numbers), newer_by_words(book, numbers))


class LaterClock(unittest.TestCase):
    def test_for_each_hand(self):
        self.assertEqual(later_clock((1, 2, 3, 4, 5, 6, 7, 8), (8, 7, 6, 5, 4, 3, 2, 1)), (8, 7, 6, 5, 5, 6, 7, 8))

    def test_zeros_and_the_same(self):
        one = (3, 0, 999999, 2, 0, 0, 1, 7)
        self.assertEqual((later_clock(one, ZEROS), later_clock(ZEROS, one), later_clock(one, one)), (one, one, one))
        self.assertEqual(later_clock(ZEROS, ZEROS), ZEROS)

    def test_of_joined_books(self):
        source = random.Random(62)
        for book in random_books(60):
            one, other = random_part(source, book), random_part(source, book)
            with self.subTest(one=one, other=other):
                self.assertEqual(clock_of(joined(one, other)), later_clock(clock_of(one), clock_of(other)))


class KeptTo(unittest.TestCase):
    def test_the_own_clock(self):
        """[0.2] (i)"""
        for book in [(), (ONE,), BOOK] + random_books(40):
            self.assertEqual(kept_to(book, clock_of(book)), book)

    def test_zeros(self):
        self.assertEqual((kept_to(BOOK, ZEROS), kept_to((), ZEROS)), ((), ()))

    def test_beyond_all_times(self):
        self.assertEqual(kept_to(BOOK, (999999,) * 8), BOOK)
        self.assertEqual(kept_to(BOOK, clock(5, 2, 99)), BOOK)

    def test_lesser(self):
        self.assertEqual(kept_to(BOOK, clock(4, 2)), (ONE, TWO, DROP, LAST))
        self.assertEqual(kept_to(BOOK, clock(3, 2, 0)), (ONE, TWO, DROP))
        self.assertEqual(kept_to(BOOK, clock(2, 2, 0)), (ONE, TWO))

    def test_names_one_that_is_newer(self):
        self.assertEqual(kept_to(BOOK, clock(2, 2, 4)), (ONE, TWO))

    def test_names_one_that_is_newer_over_several_steps(self):
        # Not newer, but the one names the newer deed of b, and the other names the one.
        self.assertEqual(kept_to(BOOK, clock(4, 1, 4)), (ONE, LAST))
        self.assertEqual(kept_to(BOOK, clock(4, 0, 99)), (ONE, LAST))

    def test_all_names_of_a_deed_count(self):
        book = (ONE, add(1, "b", None, "q"), drop(2, "a", sign(1, "a", 0), sign(1, "b", 0)),
                mark(2, "h", "x", (sign(1, "b", 0), "l"), (sign(1, "a", 0), "r")),
                mark(3, "h", "y", (sign(1, "a", 0), "l"), (sign(1, "b", 0), "r")))
        self.assertEqual(kept_to(book, clock(9, 0, 9)), (ONE,))

    def test_twice_is_as_once(self):
        source = random.Random(63)
        for book in random_books(60):
            numbers = random_clock(source, book)
            once = kept_to(book, numbers)
            with self.subTest(book=book, numbers=numbers):
                self.assertEqual(kept_to(once, numbers), once)

    def test_random_books(self):
        """[0.2] (i)"""
        source = random.Random(64)
        steps = 0
        for book in random_books(100) + random_marked_books(40):
            for _ in range(4):
                numbers = random_clock(source, book)
                told = kept_to(book, numbers)
                with self.subTest(book=book, numbers=numbers):
                    self.assertEqual(told, kept_by_words(book, numbers))
                    self.assertTrue(is_book(told))
                    self.assertEqual(newer(told, numbers), [])
                    self.assertTrue(set(told) <= set(book))
                steps += len(told) + len(newer(book, numbers)) < len(book)
        self.assertGreater(steps, 50)

    def test_every_clock_of_a_small_book(self):
        for numbers in itertools.product(range(6), range(4), range(6)):
            told = kept_to(BOOK, clock(*numbers))
            with self.subTest(numbers=numbers):
                self.assertEqual(told, kept_by_words(BOOK, clock(*numbers)))
                self.assertTrue(is_book(told))


if __name__ == "__main__":
    unittest.main()
