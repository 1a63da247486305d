"""[0.2] (h), [10.1]: how deep deeds are, and all that they name."""

import inspect
import unittest

from helper import (add, drop, kinds_of, leaning_by_words, mark, named_by, random_books, random_marked_books, sign,
                    undo, unmark)
from staymark.errors import NoDeed
from staymark.leaning import depth, layers, named_in
from staymark.orders import leaning_on

BOOK = (
    add(1, "a", None, "abc"),
    unmark(1, "b", "x"),
    add(2, "a", sign(1, "a", 0), "xy"),
    drop(3, "a", sign(1, "a", 0), sign(1, "a", 2)),
    drop(3, "b", sign(1, "a", 1), sign(2, "a", 0), sign(2, "a", 1)),
    mark(4, "c", "x", (None, "l"), (sign(2, "a", 1), "r")),
    undo(5, "a", (3, "b")),
    undo(6, "c", (5, "a")),
    mark(7, "a", "y", (None, "l"), (None, "r")),
    undo(8, "b", (1, "b")),
)
DEPTHS = {(1, "a"): 0, (1, "b"): 0, (2, "a"): 1, (3, "a"): 1, (3, "b"): 2, (4, "c"): 2, (5, "a"): 3, (6, "c"): 4,
          (7, "a"): 0, (8, "b"): 1}


def deed_by_id(book, deed_id):
    return next(deed for deed in book if deed[1] == deed_id)


def depth_by_words(book, deed_id):
    named = named_by(deed_by_id(book, deed_id))
    return 1 + max(depth_by_words(book, one) for one in named) if named else 0


def named_by_words(book, deed_id):
    found = set()
    for one in named_by(deed_by_id(book, deed_id)):
        found.add(one)
        found.update(named_by_words(book, one))
    return sorted(found)


class Interface(unittest.TestCase):
    def test_arguments(self):
        for function, many in {depth: 2, layers: 1, named_in: 2}.items():
            self.assertEqual(len(inspect.signature(function).parameters), many, function.__name__)

    def test_kinds(self):
        told = [depth(BOOK, (2, "a")), layers(BOOK[:3]), named_in(BOOK, (2, "a"))]
        self.assertEqual(kinds_of(told), kinds_of([1, [[(1, "a"), (1, "b")], [(2, "a")]], [(1, "a")]]))


class Depth(unittest.TestCase):
    def test_deeds_that_name_none(self):
        for deed in (add(1, "a", None, "abc"), unmark(1, "a", "x"), mark(1, "a", "x", (None, "l"), (None, "r"))):
            self.assertEqual(depth((deed,), (1, "a")), 0)
        # Whatever stands ahead of it.
        self.assertEqual((depth(BOOK, (7, "a")), depth(BOOK, (1, "b"))), (0, 0))

    def test_each_deed(self):
        self.assertEqual({deed[1]: depth(BOOK, deed[1]) for deed in BOOK}, DEPTHS)

    def test_a_chain(self):
        book = (unmark(1, "a", "x"),) + tuple(undo(time, "a", (time - 1, "a")) for time in range(2, 30))
        self.assertEqual([depth(book, (time, "a")) for time in range(1, 30)], list(range(29)))

    def test_a_long_chain(self):
        book = (add(1, "a", None, "x"),)
        book += tuple(add(time, "a", sign(time - 1, "a", 0), "x") for time in range(2, 3001))
        self.assertEqual(depth(book, (3000, "a")), 2999)
        self.assertEqual(len(named_in(book, (3000, "a"))), 2999)
        self.assertEqual([len(layer) for layer in layers(book)], [1] * 3000)

    def test_one_deed_named_by_several_signs(self):
        self.assertEqual((depth(BOOK, (3, "a")), named_in(BOOK, (3, "a"))), (1, [(1, "a")]))

    def test_the_greatest_of_those_named(self):
        book = (add(1, "a", None, "a"), add(2, "a", sign(1, "a", 0), "b"), add(3, "a", None, "c"),
                mark(4, "a", "x", (sign(2, "a", 0), "l"), (sign(3, "a", 0), "r")),
                mark(5, "a", "x", (sign(3, "a", 0), "l"), (sign(2, "a", 0), "r")))
        self.assertEqual((depth(book, (4, "a")), depth(book, (5, "a"))), (2, 2))

    def test_no_deed(self):
        for which in ((1, "c"), (9, "a"), (2, "b")):
            with self.subTest(which=which), self.assertRaises(NoDeed):
                depth(BOOK, which)
        with self.assertRaises(NoDeed):
            depth((), (1, "a"))

    def test_random_books(self):
        deepest = 0
        for book in random_books(80) + random_marked_books(40):
            for deed in book:
                with self.subTest(book=book, deed=deed):
                    self.assertEqual(depth(book, deed[1]), depth_by_words(book, deed[1]))
                deepest = max(deepest, depth(book, deed[1]))
        self.assertGreater(deepest, 3)

    def test_deeper_than_all_that_it_names(self):
        """[0.2] (h)"""
        for book in random_books(80):
            for deed in book:
                for one in named_by(deed) + named_in(book, deed[1]):
                    with self.subTest(book=book, deed=deed, one=one):
                        self.assertGreater(depth(book, deed[1]), depth(book, one))


class Layers(unittest.TestCase):
    def test_a_book_without_deeds(self):
        self.assertEqual(layers(()), [])

    def test_by_depths(self):
        wanted = [[(1, "a"), (1, "b"), (7, "a")], [(2, "a"), (3, "a"), (8, "b")], [(3, "b"), (4, "c")], [(5, "a")],
                  [(6, "c")]]
        self.assertEqual(layers(BOOK), wanted)

    def test_one_depth_by_several_hands(self):
        book = tuple(unmark(time, hand, "x") for time in (1, 2) for hand in "ach")
        self.assertEqual(layers(book), [[deed[1] for deed in book]])

    def test_random_books(self):
        for book in random_books(80):
            depths = {deed[1]: depth_by_words(book, deed[1]) for deed in book}
            many = max(depths.values(), default=-1) + 1
            wanted = [sorted(one for one in depths if depths[one] == level) for level in range(many)]
            with self.subTest(book=book):
                self.assertEqual(layers(book), wanted)
                self.assertTrue(all(layers(book)))


class NamedIn(unittest.TestCase):
    def test_deeds_that_name_none(self):
        for which in ((1, "a"), (1, "b"), (7, "a")):
            self.assertEqual(named_in(BOOK, which), [])

    def test_steps(self):
        self.assertEqual(named_in(BOOK, (2, "a")), [(1, "a")])
        self.assertEqual(named_in(BOOK, (3, "b")), [(1, "a"), (2, "a")])
        self.assertEqual(named_in(BOOK, (4, "c")), [(1, "a"), (2, "a")])
        self.assertEqual(named_in(BOOK, (5, "a")), [(1, "a"), (2, "a"), (3, "b")])
        self.assertEqual(named_in(BOOK, (6, "c")), [(1, "a"), (2, "a"), (3, "b"), (5, "a")])
        self.assertEqual(named_in(BOOK, (8, "b")), [(1, "b")])

    def test_no_deed(self):
        for which in ((1, "c"), (9, "a"), (2, "b")):
            with self.subTest(which=which), self.assertRaises(NoDeed):
                named_in(BOOK, which)
        with self.assertRaises(NoDeed):
            named_in((), (1, "a"))

    def test_random_books(self):
        for book in random_books(80) + random_marked_books(40):
            for deed in book:
                with self.subTest(book=book, deed=deed):
                    self.assertEqual(named_in(book, deed[1]), named_by_words(book, deed[1]))

    def test_the_other_way_round_of_leaning_on(self):
        for book in random_books(60):
            ids = [deed[1] for deed in book]
            for one in ids:
                with self.subTest(book=book, one=one):
                    self.assertEqual(leaning_on(book, one), [other for other in ids if one in named_in(book, other)])
                    self.assertEqual(named_in(book, one), [other for other in ids if one in leaning_on(book, other)])
                    self.assertEqual(leaning_on(book, one), leaning_by_words(book, one))


if __name__ == "__main__":
    unittest.main()
