"""[0.2] (f), [7.1]: what changes from a book to one with more deeds, of its text and of its marks."""

import inspect
import itertools
import random
import unittest

from helper import (add, drop, kinds_of, mark, marks_by_words, order_by_insertion, random_books, random_marked_books,
                    random_part, sign, text_by_words, there_by_words, undo, unmark)
from staymark.changes import changed_by, changes_between, moved_marks
from staymark.orders import text_of

LESS = (add(1, "a", None, "abcdef"),)


def at(number):
    return sign(1, "a", number)


def more(*deeds):
    return LESS + deeds


def changes_by_words(less, book):
    """The signs in a row, cut at those of both texts; the places by the changes done so far."""
    added = {deed[1] for deed in less}
    row = []
    for one, letter in order_by_insertion(book):
        then = one[0] in added and there_by_words(less, one)
        row.append((then, there_by_words(book, one), letter))
    told, kept = [], 0
    for of_both, stretch in itertools.groupby([one for one in row if one[0] or one[1]], lambda one: one[0] and one[1]):
        stretch = list(stretch)
        if of_both:
            kept += len(stretch)
        else:
            old = "".join(letter for then, now, letter in stretch if then)
            new = "".join(letter for then, now, letter in stretch if now)
            told.append((kept + sum(len(change[2]) for change in told), old, new))
    return told


def pairs_of_books(many):
    """A part of each book, and the book; and the book as it was, and the book."""
    source = random.Random(41)
    told = []
    for book in random_books(many) + random_marked_books(many):
        told.append((random_part(source, book), book))
        told.append((book[:source.randint(0, len(book))], book))
    return told


class Interface(unittest.TestCase):
    def test_arguments(self):
        for function in (changes_between, changed_by, moved_marks):
            self.assertEqual(len(inspect.signature(function).parameters), 2, function.__name__)

    def test_kinds(self):
        book = more(drop(2, "b", at(0)), mark(3, "b", "x", (at(1), "r"), (at(2), "l")))
        told = [changes_between(LESS, book), changed_by("abc", [(0, "a", "xy")]), moved_marks(LESS, book)]
        told += [moved_marks(book, book + (unmark(4, "a", "x"),))]
        wanted = [[(0, "a", "")], "xybc", [("x", None, (0, 2))], [("x", (0, 2), None)]]
        self.assertEqual(kinds_of(told), kinds_of(wanted))


class ChangesBetween(unittest.TestCase):
    def check(self, less, book, wanted):
        self.assertEqual(changes_between(less, book), wanted)
        self.assertEqual(changed_by(text_of(less), wanted), text_of(book))

    def test_a_book_and_itself(self):
        for book in [(), LESS, more(drop(2, "b", at(0)), undo(3, "a", (2, "b")))] + random_books(20):
            self.assertEqual(changes_between(book, book), [])

    def test_from_a_book_without_deeds(self):
        self.check((), LESS, [(0, "", "abcdef")])
        self.check((), more(drop(2, "b", *[at(number) for number in range(6)])), [])

    def test_added_at_the_beginning(self):
        self.check(LESS, more(add(2, "b", None, "xy")), [(0, "", "xy")])

    def test_added_inside(self):
        self.check(LESS, more(add(2, "b", at(2), "xy")), [(3, "", "xy")])

    def test_added_at_the_end(self):
        self.check(LESS, more(add(2, "b", at(5), "xy")), [(6, "", "xy")])

    def test_several_side_by_side_are_one(self):
        book = more(add(2, "b", at(2), "xy"), add(2, "c", at(2), "z"), add(3, "a", sign(2, "b", 0), "w"))
        self.check(LESS, book, [(3, "", "zxwy")])

    def test_several_with_signs_of_both_between(self):
        book = more(add(2, "b", None, "xy"), add(3, "b", at(2), "z"), add(4, "b", at(5), "w"))
        self.check(LESS, book, [(0, "", "xy"), (5, "", "z"), (9, "", "w")])

    def test_dropped(self):
        self.check(LESS, more(drop(2, "b", at(0), at(1))), [(0, "ab", "")])
        self.check(LESS, more(drop(2, "b", at(2), at(3))), [(2, "cd", "")])
        self.check(LESS, more(drop(2, "b", at(5))), [(5, "f", "")])
        self.check(LESS, more(drop(2, "b", *[at(number) for number in range(6)])), [(0, "abcdef", "")])

    def test_dropped_by_several_deeds_is_one(self):
        self.check(LESS, more(drop(2, "b", at(1), at(3)), drop(3, "c", at(2))), [(1, "bcd", "")])

    def test_undone(self):
        less = more(add(2, "b", at(2), "xy"))
        self.check(less, less + (undo(3, "a", (2, "b")),), [(3, "xy", "")])
        self.check(less, less + (undo(3, "a", (1, "a")),), [(0, "abc", ""), (2, "def", "")])

    def test_there_again(self):
        less = more(drop(2, "b", at(1), at(2)))
        self.check(less, less + (undo(3, "a", (2, "b")),), [(1, "", "bc")])
        undone = less + (undo(3, "a", (2, "b")),)
        self.check(undone, undone + (undo(4, "a", (3, "a")),), [(1, "bc", "")])
        self.check(less, undone + (undo(4, "a", (3, "a")),), [])

    def test_added_and_gone_again_is_no_change(self):
        self.check(LESS, more(add(2, "b", at(2), "xy"), drop(3, "b", sign(2, "b", 0), sign(2, "b", 1))), [])
        self.check(LESS, more(add(2, "b", at(2), "xy"), undo(3, "b", (2, "b"))), [])

    def test_old_ahead_of_new(self):
        self.check(LESS, more(drop(2, "b", at(2)), add(3, "b", at(2), "xy")), [(2, "c", "xy")])

    def test_new_ahead_of_old(self):
        self.check(LESS, more(drop(2, "b", at(2)), add(3, "b", at(1), "xy")), [(2, "c", "xy")])

    def test_new_among_old_and_old_among_new(self):
        book = more(drop(2, "b", at(1), at(2)), add(3, "b", at(1), "x"))
        self.check(LESS, book, [(1, "bc", "x")])
        book = more(add(2, "b", at(1), "x"), drop(3, "b", at(2)), add(4, "b", at(2), "y"))
        self.check(LESS, book, [(2, "c", "xy")])

    def test_old_and_new_may_be_alike(self):
        self.check(LESS, more(drop(2, "b", at(2)), add(3, "b", at(2), "c")), [(2, "c", "c")])

    def test_one_sign_of_both_keeps_stretches_apart(self):
        self.check(LESS, more(drop(2, "b", at(1), at(3))), [(1, "b", ""), (2, "d", "")])
        self.check(LESS, more(drop(2, "b", at(1)), add(3, "b", at(2), "x")), [(1, "b", ""), (2, "", "x")])
        self.check(LESS, more(add(2, "b", at(1), "xy"), add(3, "b", at(2), "z")), [(2, "", "xy"), (5, "", "z")])

    def test_signs_of_neither_text_keep_nothing_apart(self):
        # Dropped in less already, and so in neither text.
        less = more(drop(2, "b", at(2)))
        self.check(less, less + (drop(3, "b", at(1), at(3)),), [(1, "bd", "")])
        # Added and dropped by more alone, and so in neither text too.
        book = more(add(2, "b", at(1), "x"), drop(3, "b", sign(2, "b", 0)), drop(4, "b", at(1), at(2)))
        self.check(LESS, book, [(1, "bc", "")])
        # At the edges of a change they count for nothing, in its place neither.
        self.check(less, less + (add(3, "b", at(2), "y"),), [(2, "", "y")])

    def test_place_behind_longer_and_shorter_text(self):
        longer = more(drop(2, "b", at(0)), add(3, "b", at(0), "xyz"), drop(4, "b", at(3)))
        self.check(LESS, longer, [(0, "a", "xyz"), (5, "d", "")])
        shorter = more(drop(2, "b", at(0), at(1)), add(3, "b", at(3), "z"), drop(4, "b", at(5)))
        self.check(LESS, shorter, [(0, "ab", ""), (2, "", "z"), (4, "f", "")])

    def test_deeds_of_lesser_ids_that_come_later(self):
        less = (add(1, "b", None, "ab"), add(5, "b", sign(1, "b", 0), "x"))
        book = tuple(sorted(less + (add(1, "a", None, "o"), add(3, "a", sign(1, "b", 0), "y")), key=lambda one: one[1]))
        self.check(less, book, [(2, "", "y"), (4, "", "o")])

    def test_marks_are_no_changes(self):
        book = more(mark(2, "b", "x", (at(0), "l"), (at(3), "r")), unmark(3, "b", "x"))
        self.assertEqual(changes_between(LESS, book), [])

    def test_random_books(self):
        found = 0
        for less, book in pairs_of_books(150):
            told = changes_between(less, book)
            with self.subTest(less=less, book=book):
                self.assertEqual(told, changes_by_words(less, book))
                self.assertEqual(changed_by(text_by_words(less), told), text_by_words(book))
                self.assertTrue(all(change[1] or change[2] for change in told))
                for one, other in zip(told, told[1:]):
                    self.assertLess(one[0] + len(one[2]), other[0])
            found += len(told) > 1
        self.assertGreater(found, 40)

    def test_old_stands_at_its_place(self):
        for less, book in pairs_of_books(30):
            told = changes_between(less, book)
            for number, (place, old, _) in enumerate(told):
                so_far = changed_by(text_of(less), told[:number])
                with self.subTest(less=less, book=book, number=number):
                    self.assertEqual(so_far[place:place + len(old)], old)
                    self.assertEqual(so_far[:place], text_of(book)[:place])


class ChangedBy(unittest.TestCase):
    def test_no_changes(self):
        self.assertEqual((changed_by("abc", []), changed_by("", [])), ("abc", ""))

    def test_at_the_beginning(self):
        self.assertEqual(changed_by("abc", [(0, "", "xy")]), "xyabc")
        self.assertEqual(changed_by("abc", [(0, "ab", "")]), "c")
        self.assertEqual(changed_by("abc", [(0, "a", "xy")]), "xybc")

    def test_inside(self):
        self.assertEqual(changed_by("abc", [(1, "", "xy")]), "axybc")
        self.assertEqual(changed_by("abc", [(1, "b", "")]), "ac")
        self.assertEqual(changed_by("abc", [(1, "b", "xyz")]), "axyzc")

    def test_at_the_end(self):
        self.assertEqual(changed_by("abc", [(3, "", "xy")]), "abcxy")
        self.assertEqual(changed_by("abc", [(2, "c", "")]), "ab")
        self.assertEqual(changed_by("abc", [(2, "c", "xy")]), "abxy")
        self.assertEqual(changed_by("", [(0, "", "xy")]), "xy")
        self.assertEqual(changed_by("abc", [(0, "abc", "")]), "")

    def test_without_old_and_new(self):
        self.assertEqual(changed_by("abc", [(1, "", ""), (3, "", "")]), "abc")

    def test_one_behind_the_other(self):
        self.assertEqual(changed_by("abc", [(0, "a", "xyz"), (3, "b", "")]), "xyzc")
        # Places are those of the text as it is by then, whichever order they come in.
        self.assertEqual(changed_by("abc", [(2, "c", "z"), (0, "", "q"), (1, "a", "")]), "qbz")
        self.assertEqual(changed_by("ab", [(0, "", "x"), (0, "x", "yy"), (1, "y", "")]), "yab")

    def test_as_many_signs_as_old_has(self):
        self.assertEqual(changed_by("abcd", [(1, "qq", "x")]), "axd")

    def test_changes_are_not_changed(self):
        changes = [(0, "a", "xy"), (2, "b", "")]
        changed_by("abc", changes)
        self.assertEqual(changes, [(0, "a", "xy"), (2, "b", "")])


class MovedMarks(unittest.TestCase):
    BASE = more(mark(2, "a", "x", (at(1), "r"), (at(3), "l")), mark(3, "a", "y", (at(4), "r"), (at(4), "l")))

    def test_the_same(self):
        self.assertEqual(moved_marks((), ()), [])
        self.assertEqual(moved_marks(self.BASE, self.BASE), [])
        # Behind the marks, and into neither.
        self.assertEqual(moved_marks(self.BASE, self.BASE + (add(4, "b", at(5), "z"),)), [])

    def test_new(self):
        book = self.BASE + (mark(4, "b", "k", (None, "l"), (None, "r")),)
        self.assertEqual(moved_marks(self.BASE, book), [("k", None, (0, 6))])
        self.assertEqual(moved_marks((), self.BASE), [("x", None, (1, 4)), ("y", None, (4, 5))])

    def test_new_without_a_sign(self):
        book = self.BASE + (mark(4, "b", "k", (None, "l"), (None, "l")),)
        self.assertEqual(moved_marks(self.BASE, book), [("k", None, (0, 0))])

    def test_gone(self):
        self.assertEqual(moved_marks(self.BASE, self.BASE + (unmark(4, "b", "x"),)), [("x", (1, 4), None)])
        self.assertEqual(moved_marks(self.BASE, self.BASE + (undo(4, "b", (3, "a")),)), [("y", (4, 5), None)])

    def test_elsewhere(self):
        book = self.BASE + (mark(4, "b", "x", (at(0), "r"), (at(1), "l")),)
        self.assertEqual(moved_marks(self.BASE, book), [("x", (1, 4), (0, 2))])

    def test_only_its_begin_or_its_end_elsewhere(self):
        book = self.BASE + (mark(4, "b", "x", (at(0), "r"), (at(3), "l")),)
        self.assertEqual(moved_marks(self.BASE, book), [("x", (1, 4), (0, 4))])
        book = self.BASE + (mark(4, "b", "x", (at(1), "r"), (at(4), "l")),)
        self.assertEqual(moved_marks(self.BASE, book), [("x", (1, 4), (1, 5))])

    def test_marked_anew_at_the_same_place(self):
        book = self.BASE + (mark(4, "b", "x", (at(0), "l"), (at(4), "r")),)
        self.assertEqual(moved_marks(self.BASE, book), [])
        book = self.BASE + (unmark(4, "b", "x"), mark(5, "b", "x", (at(1), "r"), (at(3), "l")))
        self.assertEqual(moved_marks(self.BASE, book), [])

    def test_moved_by_signs_ahead_of_it(self):
        book = self.BASE + (add(4, "b", None, "qq"),)
        self.assertEqual(moved_marks(self.BASE, book), [("x", (1, 4), (3, 6)), ("y", (4, 5), (6, 7))])
        book = self.BASE + (drop(4, "b", at(0)),)
        self.assertEqual(moved_marks(self.BASE, book), [("x", (1, 4), (0, 3)), ("y", (4, 5), (3, 4))])

    def test_names_rise(self):
        deeds = [mark(time, "a", name, (None, "l"), (None, "r")) for time, name in enumerate(["m", "b", "zz", "z"], 2)]
        told = moved_marks(LESS, more(*deeds))
        self.assertEqual([one[0] for one in told], ["b", "m", "z", "zz"])
        gone = more(*deeds) + (unmark(7, "a", "zz"), mark(8, "a", "a", (None, "l"), (None, "l")))
        self.assertEqual(moved_marks(more(*deeds), gone), [("a", None, (0, 0)), ("zz", (0, 6), None)])

    def test_random_books(self):
        found = 0
        for less, book in pairs_of_books(150):
            then = {name: (begin, end) for name, begin, end in marks_by_words(less)}
            now = {name: (begin, end) for name, begin, end in marks_by_words(book)}
            names = [name for name in sorted({**then, **now}) if then.get(name) != now.get(name)]
            with self.subTest(less=less, book=book):
                self.assertEqual(moved_marks(less, book), [(name, then.get(name), now.get(name)) for name in names])
            found += len(names) > 1
        self.assertGreater(found, 40)


if __name__ == "__main__":
    unittest.main()
