"""[0.2] (b), (c), (d), (f), (g) of whole books, and [0.3]: what is told is new, what is handed in stays as it is."""

import copy
import random
import unittest

from helper import (add, drop, leaning_by_words, random_books, random_marked_books, random_part, shown_by_words, sign,
                    spread, undo, unmark)
from staymark.changes import changed_by, changes_between, moved_marks
from staymark.errors import BadBook, MarkError
from staymark.hands import Hand, met
from staymark.history import as_of, by_hand, lost, texts_of
from staymark.joining import joined, lacking, ready, trimmed, without
from staymark.marks import anchor_at, drawn, hand_marks, marked, marks_of, names_at, place_of
from staymark.orders import authors_of, in_effect, signs_of, text_of
from staymark.reading import read
from staymark.stretches import bare, crossing, inner_of, pieces, widest
from staymark.writing import written

BOOK = spread("abcdef", ("x", 0, 4), ("y", 2, 6), ("z", 3, 3), ("in", 1, 2))
WAITING = undo(9, "c", (8, "c"))
GONE = (add(1, "a", None, "abc"), drop(2, "b", *[sign(1, "a", number) for number in range(3)]))

# Each tells a list, or something that holds lists.
TELLS = [
    lambda: marks_of(BOOK), lambda: names_at(BOOK, 1), lambda: names_at(BOOK, 3), lambda: hand_marks(BOOK),
    lambda: pieces(BOOK), lambda: bare(spread("abc", ("x", 1, 2))), lambda: crossing(BOOK),
    lambda: inner_of(BOOK, "x"), lambda: inner_of(BOOK, "z"), lambda: lacking(BOOK[:1], BOOK),
    lambda: ready(BOOK, [WAITING]), lambda: ready(BOOK, []), lambda: marks_of(()), lambda: hand_marks(()),
    lambda: pieces(()), lambda: bare(()), lambda: crossing(()), lambda: lacking((), ()),
    lambda: changes_between(BOOK[:1], BOOK), lambda: changes_between((), BOOK), lambda: moved_marks(BOOK[:2], BOOK),
    lambda: moved_marks((), ()), lambda: texts_of(BOOK), lambda: texts_of(()), lambda: lost(GONE), lambda: lost(()),
    lambda: by_hand(BOOK, "a"), lambda: by_hand(BOOK, "b"), lambda: by_hand((), "a"),
]


def shows(book):
    return (text_of(book), marks_of(book))


def tells(book):
    """All that is told of a book alone."""
    return [signs_of(book), authors_of(book), drawn(book), hand_marks(book), pieces(book), bare(book), crossing(book),
            widest(book), trimmed(book), shows(book), changes_between((), book), moved_marks((), book), texts_of(book),
            lost(book), [by_hand(book, hand) for hand in "abc"], written(book)]


def spoil(thing):
    """Changes each list in the thing."""
    if isinstance(thing, (list, tuple)):
        for part in thing:
            spoil(part)
    if isinstance(thing, list):
        thing.append("more")
        thing.reverse()


class Joined(unittest.TestCase):
    """[0.2] (b)"""

    def test_books_tell_the_same_whichever_is_joined_to_which(self):
        source = random.Random(31)
        for book in random_marked_books(50):
            one, two = random_part(source, book), random_part(source, book)
            wanted = tells(joined(one, two))
            with self.subTest(one=one, two=two):
                self.assertEqual(tells(joined(two, one)), wanted)
                self.assertEqual(tells(joined(joined(one, two), joined(two, one))), wanted)
                self.assertEqual(tells(ready(one, list(reversed(two)))[0]), wanted)


class Anchors(unittest.TestCase):
    """[0.2] (c)"""

    def test_keep_the_order_of_their_signs(self):
        for book in random_books(60):
            anchors = [(pair[0], side) for pair in signs_of(book) for side in "rl"]
            places = [place_of(book, anchor) for anchor in anchors]
            with self.subTest(book=book):
                self.assertEqual(places, sorted(places))

    def test_stay_but_for_what_is_added_or_dropped_there(self):
        source = random.Random(32)
        for book in random_marked_books(60):
            part = random_part(source, book)
            then, now = [[pair[0] for pair in shown_by_words(one)] for one in (part, book)]
            both = [one for one in now if one in then]
            for anchor in [(pair[0], side) for pair in signs_of(part) for side in "lr"]:
                ahead_then = [one for one in then[:place_of(part, anchor)] if one in both]
                ahead_now = [one for one in now[:place_of(book, anchor)] if one in both]
                with self.subTest(part=part, book=book, anchor=anchor):
                    self.assertEqual(ahead_then, ahead_now)

    def test_a_mark_stays_beside_what_is_added_and_dropped(self):
        hand = Hand("a")
        hand.add(0, "to be or not")
        hand.mark("x", 3, 2, "rl")
        hand.add(0, "so: ")
        hand.add(16, "!")
        self.assertEqual(drawn(hand.known()), "so: to x>be<x or not!")
        hand.drop(0, 6)
        self.assertEqual(drawn(hand.known()), " x>be<x or not!")
        hand.add(2, "--")
        self.assertEqual(drawn(hand.known()), " x>b--e<x or not!")


class Undone(unittest.TestCase):
    """[0.2] (d)"""

    def test_as_if_never_done(self):
        for book in random_books(60) + random_marked_books(60):
            time = book[-1][1][0] + 1 if book else 1
            for deed in book:
                undone = book + (undo(time, "h", deed[1]),)
                with self.subTest(book=book, deed=deed):
                    if in_effect(book, deed[1]) and not leaning_by_words(book, deed[1]):
                        self.assertEqual(shows(undone), shows(without(book, deed[1])))
                    if in_effect(book, deed[1]):
                        self.assertEqual(shows(undone + (undo(time + 1, "g", (time, "h")),)), shows(book))


class Changed(unittest.TestCase):
    """[0.2] (f)"""

    def test_changes_lead_from_each_text_to_the_next(self):
        for book in random_books(40) + random_marked_books(40):
            text = ""
            for time, then in enumerate(texts_of(book)[1:]):
                text = changed_by(text, changes_between(as_of(book, time), as_of(book, time + 1)))
                with self.subTest(book=book, time=time):
                    self.assertEqual(text, then)

    def test_what_a_hand_takes_changes_its_text_just_so(self):
        one, other = Hand("a"), Hand("b")
        one.add(0, "to be")
        met(one, other)
        one.become("to see")
        other.add(5, ", or not"), other.mark("x", 3, 2, "rl")
        before = one.known()
        one.take(lacking(before, other.known()))
        changes = changes_between(before, one.known())
        self.assertEqual((changes, one.text()), ([(6, "", ", or not")], "to see, or not"))
        self.assertEqual(moved_marks(before, one.known()), [("x", None, (5, 6))])
        before = other.known()
        met(one, other)
        self.assertEqual(changes_between(before, other.known()), [(3, "b", "se")])
        self.assertEqual(moved_marks(before, other.known()), [("x", (3, 5), (5, 6))])

    def test_pieces_make_up_the_text(self):
        for book in random_marked_books(40):
            self.assertEqual("".join(piece for piece, _ in pieces(book)), text_of(book))


class Texts(unittest.TestCase):
    """[0.2] (g)"""

    def test_books_that_go_as_texts_tell_the_same(self):
        source = random.Random(33)
        for book in random_books(30) + random_marked_books(30):
            one, two = random_part(source, book), random_part(source, book)
            with self.subTest(one=one, two=two):
                self.assertEqual(tells(read(written(book))), tells(book))
                self.assertEqual(joined(read(written(one)), read(written(two))), joined(one, two))
                self.assertEqual(read(written(trimmed(book))), trimmed(book))

    def test_one_text_is_of_one_book(self):
        books = random_books(60)
        self.assertEqual(len({written(book) for book in books}), len(set(books)))


class ToldAndHandedIn(unittest.TestCase):
    """[0.3]"""

    def test_told_lists_are_new_ones(self):
        for number, tell in enumerate(TELLS):
            first = tell()
            kept = copy.deepcopy(first)
            spoil(first)
            with self.subTest(number=number):
                self.assertEqual(tell(), kept)

    def test_no_list_stands_twice_in_what_is_told(self):
        for number, tell in enumerate(TELLS):
            told = tell()
            found = [part for whole in told if isinstance(whole, tuple) for part in whole if isinstance(part, list)]
            with self.subTest(number=number):
                self.assertEqual(len({id(part) for part in found}), len(found))

    def test_books_are_not_changed(self):
        for book in random_marked_books(30):
            before = repr(book)
            tells(book)
            self.assertEqual(repr(book), before)

    def test_list_of_ready_is_not_changed(self):
        deeds = [WAITING, BOOK[1], BOOK[0], WAITING]
        kept = list(deeds)
        told = ready((), deeds)
        self.assertEqual(deeds, kept)
        spoil(told)
        self.assertEqual(deeds, kept)
        deeds.clear()
        self.assertEqual(told[0], BOOK[:2])

    def test_list_of_changed_by_is_not_changed(self):
        changes = changes_between(GONE, GONE + (undo(3, "a", (2, "b")),))
        kept = list(changes)
        self.assertEqual([changed_by("", changes), changed_by("", changes), changes], ["abc", "abc", kept])

    def test_list_of_take_is_not_changed_and_not_kept(self):
        hand = Hand("h")
        deeds = [WAITING, BOOK[1], BOOK[0]]
        kept = list(deeds)
        self.assertEqual(hand.take(deeds), 1)
        self.assertEqual(deeds, kept)
        deeds.clear()
        deeds.append(unmark(1, "g", "q"))
        self.assertEqual((hand.known(), hand.take([])), (BOOK[:2], 1))
        waiting = [WAITING]
        other = Hand("g")
        other.take(waiting)
        waiting.clear()
        self.assertEqual(other.take([]), 1)

    def test_list_of_become_is_not_kept(self):
        hand = Hand("a")
        hand.add(0, "abc")
        hand.become("axc").clear()
        self.assertEqual((hand.text(), hand.undo()[2], hand.undo()[2]), ("axc", (3, "a"), (2, "a")))
        self.assertEqual(hand.become("abc"), [])
        hand.become("abc").append("more")
        self.assertEqual(hand.become("abc"), [])

    def test_a_told_book_stays_as_it_was(self):
        one, other = Hand("a"), Hand("b")
        one.add(0, "abc")
        book = one.known()
        together = met(one, other)
        one.add(0, "x"), other.drop(0, 1), one.undo()
        self.assertEqual((book, together), ((add(1, "a", None, "abc"),), (add(1, "a", None, "abc"),)))
        self.assertEqual((one.text(), other.text()), ("abc", "bc"))

    def test_nothing_is_kept_from_one_book_to_the_other(self):
        wanted = [tells(book) for book in random_marked_books(20)]
        for book in random_books(20):
            tells(book)
        self.assertEqual([tells(book) for book in random_marked_books(20)], wanted)

    def test_what_is_refused_changes_nothing(self):
        hand = Hand("a")
        hand.add(0, "abc")
        hand.mark("x", 0, 1, "lr")
        hand.undo()
        hand.take([WAITING])
        before = hand.known()
        refused = [("add", -1, "x"), ("add", 4, "x"), ("drop", 0, 0), ("drop", 2, 2), ("drop", -1, 1),
                   ("mark", "y", 2, 2, "lr"), ("mark", "y", 2, -1, "lr"), ("unmark", "y"), ("unmark", "x"),
                   ("take", [add(1, "a", None, "abd"), unmark(9, "b", "x"), undo(20, "b", (19, "b"))])]
        for call in refused:
            with self.subTest(call=call), self.assertRaises(MarkError):
                getattr(hand, call[0])(*call[1:])
            self.assertEqual((hand.known(), hand.text()), (before, "abc"))
        self.assertEqual(hand.take([]), 1)
        # What can be undone and done again is as it was, too.
        self.assertEqual(hand.redo(), undo(4, "a", (3, "a")))
        self.assertEqual(hand.undo(), undo(5, "a", (2, "a")))

    def test_refused_books_are_not_changed(self):
        unlike = (add(1, "a", None, "xyz"),)
        before = (repr(BOOK), repr(unlike))
        with self.assertRaises(BadBook):
            joined(BOOK, unlike)
        self.assertEqual((repr(BOOK), repr(unlike)), before)

    def test_the_same_is_told_each_time(self):
        self.assertEqual([marked(BOOK, "x"), marked(BOOK, "x")], ["abcd", "abcd"])
        self.assertEqual([anchor_at(BOOK, 2, "l"), anchor_at(BOOK, 2, "l")], [(sign(1, "a", 1), "l")] * 2)


if __name__ == "__main__":
    unittest.main()
