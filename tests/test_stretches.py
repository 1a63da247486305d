"""[4.1], [4.2]: pieces, bare stretches, and how marks lie to one another."""

import inspect
import unittest

from helper import (add, drop, kinds_of, marks_by_words, random_marked_books, sign, signs_held, spread, text_by_words,
                    undo, unmark)
from staymark.errors import NoName
from staymark.marks import marks_of
from staymark.stretches import bare, crossing, inner_of, pieces, widest

APART = spread("abcdefg", ("y", 0, 2), ("x", 4, 6))
TOUCHING = spread("abcd", ("y", 0, 2), ("x", 2, 4))
CROSSED = spread("abcdef", ("y", 0, 4), ("x", 2, 6))
NESTED = spread("abcdef", ("out", 0, 6), ("in", 2, 4))
ALIKE = spread("abcd", ("y", 1, 3), ("x", 1, 3))
SIGNLESS = spread("abcd", ("z", 2, 2))
SIGNLESS_WITHIN = spread("abcd", ("x", 0, 4), ("z", 2, 2))
ALL = [APART, TOUCHING, CROSSED, NESTED, ALIKE, SIGNLESS, SIGNLESS_WITHIN]


class Interface(unittest.TestCase):
    def test_arguments(self):
        for function, many in {pieces: 1, bare: 1, crossing: 1, inner_of: 2, widest: 1}.items():
            self.assertEqual(len(inspect.signature(function).parameters), many, function.__name__)

    def test_kinds(self):
        told = [pieces(CROSSED), bare(APART), crossing(CROSSED), inner_of(NESTED, "out"), widest(NESTED), widest(())]
        wanted = [[("ab", ["y"]), ("cd", ["x", "y"]), ("ef", ["x"])], [(2, 4), (6, 7)], [("x", "y")], ["in"], "out"]
        self.assertEqual(kinds_of(told), kinds_of(wanted + [None]))

    def test_the_books_are_as_meant(self):
        self.assertEqual(marks_of(NESTED), [("in", 2, 4), ("out", 0, 6)])
        self.assertEqual(marks_of(SIGNLESS_WITHIN), [("x", 0, 4), ("z", 2, 2)])


class Pieces(unittest.TestCase):
    def test_without_marks(self):
        self.assertEqual(pieces(()), [])
        self.assertEqual(pieces(spread("abc")), [("abc", [])])

    def test_empty_text(self):
        self.assertEqual(pieces(spread("", ("x", 0, 0), ("y", 0, 0))), [])
        self.assertEqual(pieces(spread("ab", ("x", 0, 2)) + (undo(9, "a", (1, "a")),)), [])

    def test_apart(self):
        self.assertEqual(pieces(APART), [("ab", ["y"]), ("cd", []), ("ef", ["x"]), ("g", [])])

    def test_touching(self):
        self.assertEqual(pieces(TOUCHING), [("ab", ["y"]), ("cd", ["x"])])

    def test_nested(self):
        self.assertEqual(pieces(NESTED), [("ab", ["out"]), ("cd", ["in", "out"]), ("ef", ["out"])])

    def test_alike(self):
        self.assertEqual(pieces(ALIKE), [("a", []), ("bc", ["x", "y"]), ("d", [])])

    def test_a_mark_without_signs_cuts(self):
        self.assertEqual(pieces(SIGNLESS), [("ab", []), ("cd", [])])
        self.assertEqual(pieces(SIGNLESS_WITHIN), [("ab", ["x"]), ("cd", ["x"])])

    def test_marks_without_signs_at_the_edges(self):
        self.assertEqual(pieces(spread("ab", ("x", 0, 0), ("y", 2, 2))), [("ab", [])])

    def test_a_long_text(self):
        book = spread("abcdefghijklmnopqrst", ("y", 5, 9), ("x", 17, 18))
        self.assertEqual(pieces(book), [("abcde", []), ("fghi", ["y"]), ("jklmnopq", []), ("r", ["x"]), ("st", [])])

    def test_a_mark_that_is_no_more_does_not_cut(self):
        self.assertEqual(pieces(SIGNLESS + (unmark(9, "a", "z"),)), [("abcd", [])])

    def test_each_list_of_names_is_its_own(self):
        told = pieces(SIGNLESS_WITHIN)
        told[0][1].append("more")
        self.assertEqual(told[1], ("cd", ["x"]))
        self.assertEqual(pieces(SIGNLESS_WITHIN)[0], ("ab", ["x"]))

    def test_random_books(self):
        """[0.2] (f): pieces make up the text."""
        for book in random_marked_books(120):
            told, marks, begin = pieces(book), marks_by_words(book), 0
            with self.subTest(book=book):
                self.assertEqual("".join(piece for piece, names in told), text_by_words(book))
                cuts = {place for one in marks for place in one[1:]}
                for piece, names in told:
                    end = begin + len(piece)
                    self.assertTrue(piece)
                    self.assertFalse(cuts & set(range(begin + 1, end)))
                    self.assertTrue(begin == 0 or begin in cuts)
                    self.assertEqual(names, [one[0] for one in marks if set(range(begin, end)) <= signs_held(one)])
                    begin = end


class Bare(unittest.TestCase):
    def test_stretches(self):
        wanted = [[(2, 4), (6, 7)], [], [], [], [(0, 1), (3, 4)], [(0, 4)], []]
        self.assertEqual([bare(book) for book in ALL], wanted)

    def test_without_marks(self):
        self.assertEqual(bare(()), [])
        self.assertEqual(bare(spread("abc")), [(0, 3)])

    def test_empty_text(self):
        self.assertEqual(bare(spread("", ("x", 0, 0))), [])

    def test_several_marks_without_signs(self):
        book = spread("abcdef", ("x", 0, 0), ("y", 2, 2), ("z", 3, 3), ("k", 4, 5), ("m", 6, 6))
        self.assertEqual(bare(book), [(0, 4), (5, 6)])

    def test_random_books(self):
        for book in random_marked_books(120):
            held = set().union(*[signs_held(one) for one in marks_by_words(book)])
            free = [place for place in range(len(text_by_words(book))) if place not in held]
            told = bare(book)
            with self.subTest(book=book):
                self.assertEqual([place for begin, end in told for place in range(begin, end)], free)
                self.assertTrue(all(begin < end for begin, end in told))
                self.assertTrue(all(told[k][1] < told[k + 1][0] for k in range(len(told) - 1)))


class Crossing(unittest.TestCase):
    def test_pairs(self):
        wanted = [[], [], [("x", "y")], [], [], [], []]
        self.assertEqual([crossing(book) for book in ALL], wanted)

    def test_without_marks(self):
        self.assertEqual(crossing(()), [])

    def test_alike_at_one_end_do_not_cross(self):
        self.assertEqual(crossing(spread("abcd", ("x", 0, 2), ("y", 0, 3), ("z", 1, 3))), [("x", "z")])

    def test_several_rise(self):
        book = spread("abcdef", ("z", 0, 3), ("y", 1, 4), ("x", 2, 5), ("b", 3, 6))
        self.assertEqual(crossing(book), [("b", "x"), ("b", "y"), ("x", "y"), ("x", "z"), ("y", "z")])

    def test_random_books(self):
        for book in random_marked_books(120):
            marks = marks_by_words(book)
            wanted = [(one[0], other[0]) for one in marks for other in marks
                      if one[0] < other[0] and signs_held(one) & signs_held(other)
                      and not signs_held(one) <= signs_held(other) and not signs_held(other) <= signs_held(one)]
            with self.subTest(book=book):
                self.assertEqual(crossing(book), wanted)


class Inner(unittest.TestCase):
    def test_nested(self):
        self.assertEqual((inner_of(NESTED, "out"), inner_of(NESTED, "in")), (["in"], []))

    def test_alike_hold_each_other(self):
        self.assertEqual((inner_of(ALIKE, "x"), inner_of(ALIKE, "y")), (["y"], ["x"]))

    def test_apart_touching_crossing(self):
        for book in (APART, TOUCHING, CROSSED):
            self.assertEqual((inner_of(book, "x"), inner_of(book, "y")), ([], []))

    def test_without_signs(self):
        self.assertEqual((inner_of(SIGNLESS_WITHIN, "x"), inner_of(SIGNLESS_WITHIN, "z")), ([], []))
        twins = spread("ab", ("x", 1, 1), ("y", 1, 1))
        self.assertEqual(inner_of(twins, "x"), [])

    def test_several_rise(self):
        book = spread("abcdef", ("m", 0, 6), ("z", 0, 1), ("b", 5, 6), ("k", 0, 6))
        self.assertEqual(inner_of(book, "m"), ["b", "k", "z"])

    def test_no_name(self):
        gone = NESTED + (unmark(9, "a", "in"),)
        for book, name in [((), "x"), (NESTED, "x"), (gone, "in")]:
            with self.subTest(name=name), self.assertRaises(NoName):
                inner_of(book, name)
        self.assertEqual(inner_of(gone, "out"), [])

    def test_random_books(self):
        for book in random_marked_books(120):
            marks = marks_by_words(book)
            for outer in marks:
                wanted = [one[0] for one in marks
                          if one != outer and signs_held(one) and signs_held(one) <= signs_held(outer)]
                with self.subTest(book=book, outer=outer):
                    self.assertEqual(inner_of(book, outer[0]), wanted)


class Widest(unittest.TestCase):
    def test_the_widest(self):
        self.assertEqual([widest(book) for book in ALL], ["x", "x", "x", "out", "x", "z", "x"])

    def test_a_later_name(self):
        self.assertEqual(widest(spread("abcd", ("a", 0, 1), ("b", 0, 3), ("c", 1, 3), ("d", 1, 4))), "b")

    def test_without_marks(self):
        self.assertIsNone(widest(()))
        self.assertIsNone(widest(spread("abc")))
        self.assertIsNone(widest(SIGNLESS + (unmark(9, "a", "z"),)))

    def test_all_without_signs(self):
        self.assertEqual(widest(spread("", ("z", 0, 0), ("k", 0, 0))), "k")

    def test_by_signs_that_are_there(self):
        book = spread("abcdef", ("x", 0, 4), ("y", 3, 6)) + (drop(9, "a", sign(1, "a", 0), sign(1, "a", 1)),)
        self.assertEqual(widest(book), "y")
        self.assertEqual(widest(book + (add(10, "b", sign(1, "a", 1), "new"),)), "x")

    def test_random_books(self):
        for book in random_marked_books(120):
            marks = marks_by_words(book)
            most = max([len(signs_held(one)) for one in marks], default=0)
            names = [one[0] for one in marks if len(signs_held(one)) == most]
            with self.subTest(book=book):
                self.assertEqual(widest(book), min(names, default=None))


if __name__ == "__main__":
    unittest.main()
