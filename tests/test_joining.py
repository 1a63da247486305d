"""[0.2] (b) and (f), [5.1], [5.2]: books joined, what is lacking, what can come, books made less."""

import inspect
import random
import unittest

from helper import (add, drop, kinds_of, leaning_by_words, mark, marks_by_words, random_books, random_marked_books,
                    random_part, sign, text_by_words, undo, unmark)
from staymark.deeds import is_book
from staymark.errors import BadBook, NoDeed
from staymark.joining import joined, lacking, ready, trimmed, without
from staymark.marks import marks_of
from staymark.orders import text_of

ONE = add(1, "a", None, "abc")
TWO = add(2, "b", sign(1, "a", 0), "x")
DROP = drop(3, "c", sign(2, "b", 0))
UNDO = undo(4, "a", (3, "c"))
MARK = mark(5, "b", "m", (None, "l"), (sign(1, "a", 2), "r"))
BOOK = (ONE, TWO, DROP, UNDO, MARK)
UNLIKE = add(2, "b", sign(1, "a", 0), "y")
WHOLE = ((None, "l"), (None, "r"))


class Interface(unittest.TestCase):
    def test_arguments(self):
        for function, many in {joined: 2, lacking: 2, ready: 2, without: 2, trimmed: 1}.items():
            self.assertEqual(len(inspect.signature(function).parameters), many, function.__name__)

    def test_kinds(self):
        told = [joined((ONE,), (ONE, TWO)), lacking((ONE,), (ONE, TWO)), ready((ONE,), [TWO, UNDO])]
        told += [without((ONE, TWO), (2, "b")), trimmed((ONE, unmark(2, "a", "x")))]
        wanted = [(ONE, TWO), [TWO], ((ONE, TWO), [UNDO]), (ONE,), (ONE,)]
        self.assertEqual(kinds_of(told), kinds_of(wanted))


class Joined(unittest.TestCase):
    def test_books_that_share_deeds(self):
        self.assertEqual(joined((ONE, TWO, DROP), (ONE, MARK)), (ONE, TWO, DROP, MARK))

    def test_books_that_share_none(self):
        other = (unmark(1, "b", "x"), unmark(6, "a", "x"))
        self.assertEqual(joined(BOOK, other), (ONE, other[0]) + BOOK[1:] + (other[1],))

    def test_with_itself_and_with_none(self):
        self.assertEqual((joined(BOOK, BOOK), joined(BOOK, ()), joined((), BOOK)), (BOOK, BOOK, BOOK))
        self.assertEqual(joined((), ()), ())

    def test_unlike_deeds(self):
        for one, other in [((ONE, TWO), (ONE, UNLIKE)), ((add(1, "a", None, "abd"),), BOOK),
                           ((ONE, unmark(2, "b", "x")), (ONE, TWO))]:
            with self.assertRaises(BadBook):
                joined(one, other)
            with self.assertRaises(BadBook):
                joined(other, one)

    def test_one_time_of_two_hands_is_not_unlike(self):
        self.assertEqual(joined((unmark(1, "a", "x"),), (unmark(1, "b", "y"),)),
                         (unmark(1, "a", "x"), unmark(1, "b", "y")))

    def test_random_books(self):
        """[0.2] (b)"""
        source = random.Random(11)
        for book in random_books(120):
            one, two, three = [random_part(source, book) for _ in range(3)]
            both = joined(one, two)
            with self.subTest(one=one, two=two, three=three):
                self.assertTrue(is_book(both))
                self.assertEqual(sorted(both), sorted(set(one) | set(two)))
                self.assertEqual(both, joined(two, one))
                self.assertEqual(joined(both, one), both)
                self.assertEqual(joined(both, two), both)
                self.assertEqual(joined(joined(one, two), three), joined(one, joined(two, three)))
                self.assertEqual(text_of(joined(one, book)), text_of(book))


class Lacking(unittest.TestCase):
    def test_deeds(self):
        self.assertEqual(lacking((ONE, TWO), BOOK), [DROP, UNDO, MARK])
        self.assertEqual(lacking((ONE, TWO, DROP), (ONE, MARK)), [MARK])
        self.assertEqual((lacking(BOOK, BOOK), lacking(BOOK, ())), ([], []))
        self.assertEqual(lacking((), BOOK), list(BOOK))

    def test_random_books(self):
        source = random.Random(12)
        for book in random_books(80):
            one, other = random_part(source, book), random_part(source, book)
            told = lacking(one, other)
            with self.subTest(one=one, other=other):
                self.assertEqual(told, [deed for deed in book if deed in other and deed not in one])
                self.assertEqual(joined(one, other), ready(one, told)[0])


class Ready(unittest.TestCase):
    def test_in_any_order(self):
        self.assertEqual(ready((), [MARK, UNDO, DROP, TWO, ONE]), (BOOK, []))
        self.assertEqual(ready((ONE,), [UNDO, DROP, TWO]), ((ONE, TWO, DROP, UNDO), []))

    def test_none(self):
        self.assertEqual(ready((), []), ((), []))
        self.assertEqual(ready(BOOK, []), (BOOK, []))

    def test_the_same_twice(self):
        self.assertEqual(ready((), [ONE, ONE, UNDO, UNDO]), ((ONE,), [UNDO]))
        self.assertEqual(ready(BOOK, [ONE, TWO, ONE]), (BOOK, []))

    def test_those_that_wait(self):
        self.assertEqual(ready((ONE,), [MARK, UNDO, DROP]), ((ONE, MARK), [DROP, UNDO]))
        self.assertEqual(ready((), [UNDO, DROP, TWO]), ((), [TWO, DROP, UNDO]))

    def test_each_that_is_named_is_asked_for(self):
        for deed in [drop(9, "a", sign(1, "a", 0), sign(2, "b", 0)),
                     mark(9, "a", "x", (sign(1, "a", 0), "l"), (sign(2, "b", 0), "l")),
                     mark(9, "a", "x", (sign(2, "b", 0), "l"), (sign(1, "a", 0), "l"))]:
            with self.subTest(deed=deed):
                self.assertEqual(ready((ONE,), [deed]), ((ONE,), [deed]))
                self.assertEqual(ready((ONE,), [deed, TWO]), ((ONE, TWO, deed), []))

    def test_a_deed_between_those_of_the_book(self):
        early = unmark(1, "h", "x")
        self.assertEqual(ready(BOOK, [early]), ((ONE, early) + BOOK[1:], []))

    def test_what_names_signs_that_a_deed_does_not_add_waits(self):
        for deed in [add(9, "a", sign(1, "a", 3), "x"), drop(9, "a", sign(4, "a", 0))]:
            self.assertEqual(ready(BOOK, [deed]), (BOOK, [deed]))

    def test_unlike_deed(self):
        for deeds in [[UNLIKE], [DROP, UNLIKE], [UNLIKE, UNDO], [TWO, UNLIKE], [UNLIKE, TWO]]:
            kept = list(deeds)
            with self.subTest(deeds=deeds), self.assertRaises(BadBook):
                ready((ONE, TWO), deeds)
            self.assertEqual(deeds, kept)

    def test_unlike_deeds_in_the_list(self):
        with self.assertRaises(BadBook):
            ready((ONE,), [TWO, UNLIKE])

    def test_unlike_deed_that_could_not_come(self):
        with self.assertRaises(BadBook):
            ready((ONE, TWO), [undo(2, "b", (1, "h"))])

    def test_random_books(self):
        source = random.Random(13)
        for book in random_books(120):
            part = random_part(source, book)
            deeds = source.choices(book, k=source.randint(0, 2 * len(book))) if book else []
            told, waiting = ready(part, deeds)
            with self.subTest(part=part, deeds=deeds):
                self.assertTrue(is_book(told))
                self.assertEqual(sorted(list(told) + waiting), sorted(set(part) | set(deeds)))
                self.assertEqual(waiting, sorted(waiting, key=lambda deed: deed[1]))
                for deed in waiting:
                    self.assertFalse(is_book(tuple(sorted(told + (deed,), key=lambda deed: deed[1]))))

    def test_long_chain(self):
        chain = [ONE] + [undo(time, "a", (time - 1, "a")) for time in range(2, 1001)]
        self.assertEqual(ready((), list(reversed(chain))), (tuple(chain), []))
        self.assertEqual(ready((), chain[1:]), ((), chain[1:]))


class Without(unittest.TestCase):
    def test_over_several_steps(self):
        self.assertEqual(without(BOOK, (1, "a")), ())
        self.assertEqual(without(BOOK, (2, "b")), (ONE, MARK))
        self.assertEqual(without(BOOK, (3, "c")), (ONE, TWO, MARK))
        self.assertEqual(without(BOOK, (5, "b")), BOOK[:4])

    def test_no_deed(self):
        for which in [(1, "b"), (6, "a"), (0, "a")]:
            with self.subTest(which=which), self.assertRaises(NoDeed):
                without(BOOK, which)
        with self.assertRaises(NoDeed):
            without((), (1, "a"))

    def test_random_books(self):
        for book in random_books(80):
            for deed in book:
                told = without(book, deed[1])
                gone = [deed[1]] + leaning_by_words(book, deed[1])
                with self.subTest(book=book, deed=deed):
                    self.assertTrue(is_book(told))
                    self.assertEqual(told, tuple(one for one in book if one[1] not in gone))


class Trimmed(unittest.TestCase):
    def assert_trimmed(self, book, wanted):
        self.assertTrue(is_book(book))
        self.assertEqual(trimmed(book), wanted)

    def test_nothing_to_leave_out(self):
        self.assert_trimmed((), ())
        self.assert_trimmed((ONE,), (ONE,))
        self.assert_trimmed((ONE, TWO), (ONE, TWO))

    def test_deed_undone(self):
        # The undo names the deed, and without the undo the deed would show: neither can go alone.
        self.assert_trimmed((ONE, TWO, undo(3, "a", (2, "b"))), (ONE, TWO, undo(3, "a", (2, "b"))))

    def test_undo_that_does_nothing(self):
        undone = undo(2, "a", (1, "b"))
        book = (ONE, unmark(1, "b", "x"), undone)
        self.assert_trimmed(book, (ONE,))
        self.assert_trimmed((ONE, drop(2, "a", sign(1, "a", 0)), drop(3, "a", sign(1, "a", 0)), undo(4, "a", (3, "a"))),
                            (ONE, drop(2, "a", sign(1, "a", 0))))

    def test_undo_undone(self):
        again = (ONE, undo(2, "a", (1, "a")), undo(3, "a", (2, "a")))
        self.assert_trimmed(again, again)

    def test_undone_twice(self):
        self.assert_trimmed((ONE, undo(2, "a", (1, "a")), undo(3, "b", (1, "a"))), (ONE, undo(2, "a", (1, "a"))))

    def test_dropped_twice(self):
        first, second = drop(2, "a", sign(1, "a", 0)), drop(3, "a", sign(1, "a", 0), sign(1, "a", 1))
        self.assert_trimmed((ONE, first, second), (ONE, second))
        self.assert_trimmed((ONE, drop(2, "a", sign(1, "a", 0)), drop(3, "a", sign(1, "a", 0))),
                            (ONE, drop(2, "a", sign(1, "a", 0))))

    def test_unmark_that_does_nothing(self):
        self.assert_trimmed((ONE, unmark(2, "a", "x")), (ONE,))

    def test_some_only_behind_others(self):
        # The unmark can go only once the mark ahead of it is gone: in the second walk.
        self.assert_trimmed((ONE, mark(2, "a", "x", *WHOLE), unmark(3, "a", "x")), (ONE,))
        chain = [mark(time, "a", "x", (None, "l"), (sign(1, "a", time - 2), "l")) for time in (2, 3, 4)]
        self.assert_trimmed((ONE,) + tuple(chain), (ONE, chain[2]))
        self.assert_trimmed((ONE,) + tuple(chain) + (unmark(5, "b", "x"),), (ONE,))

    def test_an_add_and_its_drop_stay(self):
        book = (ONE, add(2, "b", None, "q"), drop(3, "b", sign(2, "b", 0)), mark(4, "a", "x", (sign(2, "b", 0), "l"),
                (None, "r")), unmark(5, "a", "x"))
        self.assert_trimmed(book, (ONE, book[1], book[2]))

    def test_marked_anew_alike(self):
        # The greater one is looked at first, and the lesser tells the same.
        first, second = mark(2, "a", "x", *WHOLE), mark(3, "b", "x", (None, "l"), (sign(1, "a", 2), "l"))
        self.assert_trimmed((ONE, first, second), (ONE, first))

    def test_a_mark_is_not_left_out_for_its_place(self):
        book = (mark(1, "a", "x", *WHOLE),)
        self.assert_trimmed(book, book)

    def trimmed_by_words(self, book):
        wanted, left, before = (text_by_words(book), marks_by_words(book)), book, None
        while left != before:
            before = left
            for deed in before[::-1]:
                less = tuple(one for one in left if one != deed)
                if is_book(less) and (text_by_words(less), marks_by_words(less)) == wanted:
                    left = less
        return left

    def test_random_books(self):
        """[0.2] (f): a trimmed book shows the same, and no deed of it can be left out alone."""
        for book in random_books(80) + random_marked_books(80):
            told = trimmed(book)
            with self.subTest(book=book):
                self.assertEqual(told, self.trimmed_by_words(book))
                self.assertTrue(is_book(told))
                self.assertTrue(set(told) <= set(book))
                self.assertEqual((text_of(told), marks_of(told)), (text_of(book), marks_of(book)))
                self.assertEqual(trimmed(told), told)
                for deed in told:
                    less = tuple(one for one in told if one != deed)
                    same = is_book(less) and (text_of(less), marks_of(less)) == (text_of(book), marks_of(book))
                    self.assertFalse(same)


if __name__ == "__main__":
    unittest.main()
