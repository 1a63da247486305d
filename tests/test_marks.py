"""[3.1], [3.2], [3.3]: where anchors stand, which marks there are, what they hold, whose they are."""

import inspect
import unittest

from helper import (add, drop, kinds_of, mark, mark_deeds_by_words, marks_by_words, order_by_insertion,
                    place_by_words, random_books, random_marked_books, shown_by_words, sign, signs_held, spread,
                    text_by_words, undo, unmark)
from staymark.errors import NoName, NoPlace, NoSign
from staymark.marks import anchor_at, drawn, hand_marks, marked, marks_of, names_at, place_of

# The text is "acde": b is dropped, and e was added behind the last sign.
GAP = (add(1, "a", None, "abcd"), drop(2, "b", sign(1, "a", 1)), add(3, "c", sign(1, "a", 3), "e"))
WHOLE = ((None, "l"), (None, "r"))


def at(number, side):
    """An anchor at a sign of the first deed of hand a."""
    return (sign(1, "a", number), side)


class Interface(unittest.TestCase):
    def test_arguments(self):
        wanted = {place_of: 2, anchor_at: 3, marks_of: 1, marked: 2, names_at: 2, drawn: 1, hand_marks: 1}
        for function, many in wanted.items():
            self.assertEqual(len(inspect.signature(function).parameters), many, function.__name__)

    def test_kinds(self):
        book = spread("abc", ("x", 0, 2), ("y", 1, 3))
        told = [place_of(book, at(0, "l")), anchor_at(book, 1, "l"), anchor_at(book, 0, "l"), marks_of(book)]
        told += [marked(book, "x"), names_at(book, 1), drawn(book), hand_marks(book)]
        wanted = [1, at(0, "l"), (None, "l"), [("x", 0, 2), ("y", 1, 3)], "ab", ["x", "y"], "x>ay>b<xc<y"]
        wanted += [[("a", ["x", "y"])]]
        self.assertEqual(kinds_of(told), kinds_of(wanted))

    def test_empty_book(self):
        self.assertEqual((marks_of(()), drawn(()), hand_marks(())), ([], "", []))


class Places(unittest.TestCase):
    def test_left_side(self):
        self.assertEqual([place_of(GAP, at(number, "l")) for number in range(4)], [1, 1, 2, 3])
        self.assertEqual(place_of(GAP, (sign(3, "c", 0), "l")), 4)

    def test_right_side(self):
        self.assertEqual([place_of(GAP, at(number, "r")) for number in range(4)], [0, 1, 1, 2])
        self.assertEqual(place_of(GAP, (sign(3, "c", 0), "r")), 3)

    def test_none(self):
        self.assertEqual(place_of(GAP, (None, "l")), 0)
        self.assertEqual(place_of(GAP, (None, "r")), 4)

    def test_empty_texts(self):
        for book in [(), (unmark(1, "a", "x"),), (add(1, "a", None, "ab"), undo(2, "a", (1, "a")))]:
            self.assertEqual([place_of(book, anchor) for anchor in WHOLE], [0, 0])
        book = (add(1, "a", None, "ab"), drop(2, "a", sign(1, "a", 0), sign(1, "a", 1)))
        self.assertEqual([place_of(book, at(number, side)) for number in (0, 1) for side in "lr"], [0] * 4)

    def test_sign_of_an_undone_add(self):
        book = (add(1, "a", None, "abc"), add(2, "b", sign(1, "a", 1), "xy"), undo(3, "b", (2, "b")))
        for number in (0, 1):
            for side in "lr":
                self.assertEqual(place_of(book, (sign(2, "b", number), side)), 2)

    def test_what_comes_beside_an_anchor(self):
        book = (add(1, "a", None, "ab"), add(2, "b", sign(1, "a", 0), "xy"))
        self.assertEqual((place_of(book, at(0, "l")), place_of(book, at(1, "r"))), (1, 3))

    def test_no_sign(self):
        others = [sign(1, "a", 4), sign(1, "a", -1), sign(1, "b", 0), sign(2, "b", 0), sign(3, "c", 1), sign(9, "a", 0)]
        for other in others:
            for side in "lr":
                with self.subTest(other=other, side=side), self.assertRaises(NoSign):
                    place_of(GAP, (other, side))
        with self.assertRaises(NoSign):
            place_of((), at(0, "l"))

    def test_random_books(self):
        for book in random_books(60):
            for one in [None] + [pair[0] for pair in order_by_insertion(book)]:
                for side in "lr":
                    with self.subTest(book=book, one=one, side=side):
                        self.assertEqual(place_of(book, (one, side)), place_by_words(book, (one, side)))


class AnchorsAtPlaces(unittest.TestCase):
    def test_left_side(self):
        wanted = [(None, "l"), at(0, "l"), at(2, "l"), at(3, "l"), (sign(3, "c", 0), "l")]
        self.assertEqual([anchor_at(GAP, place, "l") for place in range(5)], wanted)

    def test_right_side(self):
        wanted = [at(0, "r"), at(2, "r"), at(3, "r"), (sign(3, "c", 0), "r"), (None, "r")]
        self.assertEqual([anchor_at(GAP, place, "r") for place in range(5)], wanted)

    def test_empty_texts(self):
        dropped = (add(1, "a", None, "a"), drop(2, "a", sign(1, "a", 0)))
        for book in [(), dropped]:
            for side in "lr":
                self.assertEqual(anchor_at(book, 0, side), (None, side))
                for place in (-1, 1, 2):
                    with self.subTest(book=book, place=place), self.assertRaises(NoPlace):
                        anchor_at(book, place, side)

    def test_no_place(self):
        for place in (-1, -2, -4, -5, 5, 6, 99):
            for side in "lr":
                with self.subTest(place=place, side=side), self.assertRaises(NoPlace):
                    anchor_at(GAP, place, side)

    def test_stands_at_the_place(self):
        for book in random_books(60):
            shown = shown_by_words(book)
            for place in range(len(shown) + 1):
                for side in "lr":
                    anchor = anchor_at(book, place, side)
                    with self.subTest(book=book, place=place, side=side):
                        self.assertEqual(anchor[1], side)
                        self.assertEqual(place_of(book, anchor), place)
                        beside = shown[:place][-1:] if side == "l" else shown[place:place + 1]
                        self.assertEqual([anchor[0]], [pair[0] for pair in beside] or [None])


class Marks(unittest.TestCase):
    BASE = (add(1, "a", None, "abcd"),)
    FIRST = BASE + (mark(2, "a", "x", at(0, "r"), at(1, "l")),)
    ANEW = FIRST + (mark(3, "b", "x", at(2, "r"), at(3, "l")),)

    def test_a_mark(self):
        self.assertEqual(marks_of(self.FIRST), [("x", 0, 2)])
        self.assertEqual(marked(self.FIRST, "x"), "ab")

    def test_names_rise(self):
        book = spread("abcd", ("b", 0, 1), ("aa", 1, 2), ("a", 2, 3), ("z", 0, 4))
        self.assertEqual(marks_of(book), [("a", 2, 3), ("aa", 1, 2), ("b", 0, 1), ("z", 0, 4)])

    def test_marked_anew(self):
        self.assertEqual(marks_of(self.ANEW), [("x", 2, 4)])
        self.assertEqual(marked(self.ANEW, "x"), "cd")

    def test_marked_anew_at_one_time(self):
        book = self.BASE + (mark(2, "a", "x", at(0, "r"), at(1, "l")), mark(2, "b", "x", at(3, "r"), at(3, "l")))
        self.assertEqual(marks_of(book), [("x", 3, 4)])

    def test_marked_anew_undone(self):
        book = self.ANEW + (undo(4, "c", (3, "b")),)
        self.assertEqual(marks_of(book), [("x", 0, 2)])
        self.assertEqual(marks_of(book + (undo(5, "a", (4, "c")),)), [("x", 2, 4)])

    def test_first_mark_undone(self):
        self.assertEqual(marks_of(self.ANEW + (undo(4, "c", (2, "a")),)), [("x", 2, 4)])
        self.assertEqual(marks_of(self.FIRST + (undo(4, "c", (2, "a")),)), [])
        self.assertEqual(marks_of(self.FIRST + (undo(4, "c", (2, "a")), undo(5, "c", (4, "c")))), [("x", 0, 2)])

    def test_unmarked(self):
        book = self.FIRST + (unmark(3, "b", "x"),)
        self.assertEqual(marks_of(book), [])
        self.assertEqual(marks_of(book + (undo(4, "b", (3, "b")),)), [("x", 0, 2)])
        self.assertEqual(marks_of(book + (undo(4, "b", (3, "b")), undo(5, "b", (4, "b")))), [])
        self.assertEqual(marks_of(book + (mark(4, "c", "x", *WHOLE),)), [("x", 0, 4)])

    def test_unmark_of_another_name(self):
        self.assertEqual(marks_of(self.FIRST + (unmark(3, "b", "y"),)), [("x", 0, 2)])

    def test_unmark_ahead_of_the_mark(self):
        self.assertEqual(marks_of(self.BASE + (unmark(2, "a", "x"), mark(2, "b", "x", *WHOLE))), [("x", 0, 4)])
        self.assertEqual(marks_of(self.BASE + (mark(2, "a", "x", *WHOLE), unmark(2, "b", "x"))), [])

    def test_end_ahead_of_the_start(self):
        book = self.BASE + (mark(2, "a", "x", at(3, "r"), at(0, "l")),)
        self.assertEqual(marks_of(book), [("x", 3, 3)])
        self.assertEqual(marked(book, "x"), "")
        self.assertEqual(drawn(book), "abcx|d")
        self.assertEqual(marks_of(self.BASE + (mark(2, "a", "x", (None, "r"), (None, "l")),)), [("x", 4, 4)])

    def test_of_no_sign(self):
        book = self.BASE + (mark(2, "a", "x", at(0, "l"), at(1, "r")),)
        self.assertEqual((marks_of(book), marked(book, "x")), ([("x", 1, 1)], ""))
        self.assertEqual(marks_of(book + (add(3, "b", sign(1, "a", 0), "new"),)), [("x", 1, 4)])

    def test_in_an_empty_text(self):
        book = (mark(1, "a", "x", *WHOLE), mark(2, "a", "y", (None, "r"), (None, "l")))
        self.assertEqual(marks_of(book), [("x", 0, 0), ("y", 0, 0)])
        self.assertEqual((marked(book, "x"), drawn(book)), ("", "x|y|"))

    def test_sides_where_a_text_is_added(self):
        base = self.BASE + (mark(2, "a", "in", at(1, "r"), at(2, "l")), mark(3, "a", "out", at(0, "l"), at(3, "r")))
        self.assertEqual((marked(base, "in"), marked(base, "out")), ("bc", "bc"))
        book = base + (add(4, "b", sign(1, "a", 0), "1"), add(5, "b", sign(1, "a", 2), "2"))
        self.assertEqual(drawn(book), "aout>1in>bc<in2<outd")

    def test_dropped_within_and_all(self):
        book = self.BASE + (mark(2, "a", "x", at(1, "r"), at(2, "l")), drop(3, "b", sign(1, "a", 1)))
        self.assertEqual(marks_of(book), [("x", 1, 2)])
        self.assertEqual(marks_of(book + (drop(4, "b", sign(1, "a", 2)),)), [("x", 1, 1)])
        self.assertEqual(marks_of(book + (undo(4, "b", (3, "b")),)), [("x", 1, 3)])

    def test_no_name(self):
        unmarked = self.FIRST + (unmark(3, "b", "x"),)
        undone = self.FIRST + (undo(3, "b", (2, "a")),)
        for book, name in [((), "x"), (self.BASE, "x"), (self.FIRST, "y"), (self.FIRST, "xx"), (self.FIRST, ""),
                           (unmarked, "x"), (undone, "x")]:
            with self.subTest(book=book, name=name), self.assertRaises(NoName):
                marked(book, name)

    def test_random_books(self):
        for book in random_marked_books(120):
            wanted = marks_by_words(book)
            with self.subTest(book=book):
                self.assertEqual(marks_of(book), wanted)
                for name, begin, end in wanted:
                    self.assertEqual(marked(book, name), text_by_words(book)[begin:end])
                for name in {"x", "yy", "k"} - {one[0] for one in wanted}:
                    with self.assertRaises(NoName):
                        marked(book, name)


class NamesAtPlaces(unittest.TestCase):
    BOOK = spread("abcd", ("y", 0, 2), ("x", 1, 3), ("z", 1, 1), ("b", 1, 2))

    def test_names(self):
        self.assertEqual([names_at(self.BOOK, place) for place in range(4)], [["y"], ["b", "x", "y"], ["x"], []])

    def test_no_place(self):
        for place in (-1, -4, 4, 5, 99):
            with self.subTest(place=place), self.assertRaises(NoPlace):
                names_at(self.BOOK, place)

    def test_empty_texts(self):
        for book in [(), (mark(1, "a", "x", *WHOLE),)]:
            for place in (-1, 0, 1):
                with self.subTest(book=book, place=place), self.assertRaises(NoPlace):
                    names_at(book, place)

    def test_random_books(self):
        for book in random_marked_books(80):
            for place in range(len(text_by_words(book))):
                wanted = [one[0] for one in marks_by_words(book) if place in signs_held(one)]
                with self.subTest(book=book, place=place):
                    self.assertEqual(names_at(book, place), wanted)


class Drawn(unittest.TestCase):
    def test_without_marks(self):
        self.assertEqual(drawn((add(1, "a", None, "a<b|c>d"),)), "a<b|c>d")

    def test_begins_and_ends(self):
        self.assertEqual(drawn(spread("abc", ("x", 0, 3))), "x>abc<x")
        self.assertEqual(drawn(spread("abc", ("x", 1, 2))), "ax>b<xc")

    def test_several_begin_at_one_place(self):
        self.assertEqual(drawn(spread("abc", ("y", 0, 1), ("x", 0, 3), ("z", 0, 2))), "x>y>z>a<yb<zc<x")

    def test_several_end_at_one_place(self):
        self.assertEqual(drawn(spread("abc", ("y", 0, 3), ("x", 1, 3), ("z", 2, 3))), "y>ax>bz>c<z<y<x")

    def test_several_without_signs_at_one_place(self):
        self.assertEqual(drawn(spread("abc", ("y", 1, 1), ("x", 1, 1), ("z", 1, 1))), "ax|y|z|bc")

    def test_several_both_begin_and_end_alike(self):
        self.assertEqual(drawn(spread("abc", ("y", 1, 2), ("x", 1, 2))), "ax>y>b<y<xc")

    def test_all_at_one_place(self):
        book = spread("abc", ("a", 1, 2), ("b", 1, 3), ("c", 1, 1), ("d", 0, 1), ("e", 0, 1), ("f", 1, 1))
        self.assertEqual(drawn(book), "d>e>a<e<dc|f|a>b>b<ac<b")

    def test_at_the_beginning_and_the_end(self):
        book = spread("ab", ("x", 0, 0), ("y", 2, 2), ("w", 0, 2))
        self.assertEqual(drawn(book), "x|w>ab<wy|")

    def test_random_books(self):
        for book in random_marked_books(80):
            with self.subTest(book=book):
                self.assertEqual(drawn(book), self.drawn_by_words(book))

    def drawn_by_words(self, book):
        text, marks, told = text_by_words(book), marks_by_words(book), ""
        for place in range(len(text) + 1):
            for name, begin, end in sorted(marks, reverse=True):
                told += "<" + name if end == place and begin < place else ""
            for name, begin, end in sorted(marks):
                told += name + "|" if begin == end == place else ""
            for name, begin, end in sorted(marks):
                told += name + ">" if begin == place < end else ""
            told += text[place:place + 1]
        return told


class HandMarks(unittest.TestCase):
    def test_one_hand_with_several_names(self):
        book = tuple(mark(time, "c", name, *WHOLE) for time, name in [(1, "z"), (2, "a"), (3, "m")])
        self.assertEqual(hand_marks(book), [("c", ["a", "m", "z"])])

    def test_hands_rise(self):
        book = (mark(1, "h", "a", *WHOLE), mark(2, "b", "c", *WHOLE), mark(3, "a", "z", *WHOLE))
        self.assertEqual(hand_marks(book), [("a", ["z"]), ("b", ["c"]), ("h", ["a"])])

    def test_marked_anew_by_another_hand(self):
        book = (mark(1, "a", "x", *WHOLE), mark(2, "a", "y", *WHOLE), mark(3, "b", "x", *WHOLE))
        self.assertEqual(hand_marks(book), [("a", ["y"]), ("b", ["x"])])
        self.assertEqual(hand_marks(book[:1] + book[2:]), [("b", ["x"])])
        self.assertEqual(hand_marks(book + (undo(4, "c", (3, "b")),)), [("a", ["x", "y"])])

    def test_unmarked_and_undone(self):
        book = (mark(1, "a", "x", *WHOLE), unmark(2, "b", "x"))
        self.assertEqual(hand_marks(book), [])
        self.assertEqual(hand_marks(book + (undo(3, "c", (2, "b")),)), [("a", ["x"])])

    def test_random_books(self):
        for book in random_marked_books(80):
            deeds = mark_deeds_by_words(book)
            wanted = [(hand, [deed[2] for deed in deeds if deed[1][1] == hand])
                      for hand in sorted({deed[1][1] for deed in deeds})]
            with self.subTest(book=book):
                self.assertEqual(hand_marks(book), wanted)


if __name__ == "__main__":
    unittest.main()
