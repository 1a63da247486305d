"""[8.1]: how a book was, who added a sign, what was lost, and what a hand did."""

import inspect
import unittest

from helper import (add, drop, effect_by_words, kinds_of, mark, random_books, random_marked_books, shown_by_words,
                    sign, text_by_words, there_by_words, undo, unmark)
from staymark.errors import NoPlace
from staymark.history import age_at, as_of, by_hand, first_seen, lost, texts_of

ONE = add(2, "a", None, "abc")
TWO = add(2, "b", None, "xy")
DROP = drop(4, "c", sign(2, "b", 0), sign(2, "b", 1))
UNDO = undo(7, "a", (4, "c"))
BOOK = (ONE, TWO, DROP, UNDO)
WHOLE = ((None, "l"), (None, "r"))


class Interface(unittest.TestCase):
    def test_arguments(self):
        many = {as_of: 2, texts_of: 1, age_at: 2, first_seen: 2, lost: 1, by_hand: 2}
        for function in many:
            self.assertEqual(len(inspect.signature(function).parameters), many[function], function.__name__)

    def test_kinds(self):
        told = [as_of(BOOK, 2), texts_of((ONE,)), age_at(BOOK, 0), first_seen(BOOK, "a"), lost((ONE, TWO, DROP)),
                by_hand(BOOK, "a")]
        wanted = [(ONE, TWO), ["", "", "abc"], (2, "b"), 2, [((2, "b"), "xy")], [("add", 1, 1), ("undo", 1, 1)]]
        self.assertEqual(kinds_of(told), kinds_of(wanted))


class AsOf(unittest.TestCase):
    def test_time_0(self):
        self.assertEqual((as_of(BOOK, 0), as_of((), 0)), ((), ()))

    def test_times_between_deeds(self):
        self.assertEqual((as_of(BOOK, 1), as_of(BOOK, 3), as_of(BOOK, 6)), ((), (ONE, TWO), (ONE, TWO, DROP)))

    def test_several_deeds_of_one_time(self):
        self.assertEqual(as_of(BOOK, 2), (ONE, TWO))

    def test_a_time_of_a_deed(self):
        self.assertEqual((as_of(BOOK, 4), as_of(BOOK, 7)), ((ONE, TWO, DROP), BOOK))

    def test_a_time_beyond_the_greatest(self):
        self.assertEqual((as_of(BOOK, 8), as_of(BOOK, 10 ** 9), as_of((), 5)), (BOOK, BOOK, ()))


class TextsOf(unittest.TestCase):
    def test_a_book_without_deeds(self):
        self.assertEqual(texts_of(()), [""])

    def test_each_time_from_0_on(self):
        self.assertEqual(texts_of(BOOK), ["", "", "xyabc", "xyabc", "abc", "abc", "abc", "xyabc"])

    def test_a_first_deed_of_time_1(self):
        self.assertEqual(texts_of((add(1, "h", None, "q"),)), ["", "q"])

    def test_deeds_that_change_no_text(self):
        self.assertEqual(texts_of((unmark(1, "a", "x"), mark(3, "a", "x", *WHOLE))), ["", "", "", ""])

    def test_times_far_from_one_another(self):
        book = (add(6, "a", None, "x"), add(9, "a", None, "y"), add(24, "a", None, "z"))
        self.assertEqual(texts_of(book), [""] * 6 + ["x"] * 3 + ["yx"] * 15 + ["zyx"])
        self.assertEqual([first_seen(book, text) for text in ("x", "y", "z", "yx", "zy")], [6, 9, 24, 9, 24])

    def test_a_great_time_alone(self):
        told = texts_of((add(999999, "a", None, "late"),))
        self.assertEqual((len(told), told[0], told[999998], told[999999]), (1000000, "", "", "late"))

    def test_random_books(self):
        for book in random_books(60):
            greatest = max([deed[1][0] for deed in book], default=0)
            wanted = [tuple(deed for deed in book if deed[1][0] <= time) for time in range(greatest + 1)]
            with self.subTest(book=book):
                self.assertEqual([as_of(book, time) for time in range(greatest + 1)], wanted)
                self.assertEqual(texts_of(book), [text_by_words(then) for then in wanted])


class AgeAt(unittest.TestCase):
    def test_each_place(self):
        wanted = [(2, "b"), (2, "b"), (2, "a"), (2, "a"), (2, "a")]
        self.assertEqual([age_at(BOOK, place) for place in range(5)], wanted)
        self.assertEqual([age_at(BOOK[:3], place) for place in range(3)], [(2, "a")] * 3)

    def test_no_sign_is_there(self):
        for place in (5, 6, 99, -1, -5, -6):
            with self.subTest(place=place), self.assertRaises(NoPlace):
                age_at(BOOK, place)

    def test_an_empty_text(self):
        for book in [(), (ONE, drop(3, "a", *[sign(2, "a", number) for number in range(3)]))]:
            for place in (-1, 0, 1):
                with self.subTest(book=book, place=place), self.assertRaises(NoPlace):
                    age_at(book, place)

    def test_random_books(self):
        for book in random_books(60):
            wanted = [pair[0][0] for pair in shown_by_words(book)]
            with self.subTest(book=book):
                self.assertEqual([age_at(book, place) for place in range(len(wanted))], wanted)


class FirstSeen(unittest.TestCase):
    def test_the_empty_text(self):
        self.assertEqual((first_seen(BOOK, ""), first_seen((), "")), (0, 0))

    def test_never(self):
        for text in ("q", "cx", "ba", "xyabcx", "XY"):
            self.assertIsNone(first_seen(BOOK, text))
        self.assertIsNone(first_seen((), "a"))

    def test_parts_of_the_text(self):
        for text in ("x", "ya", "abc", "xyabc"):
            self.assertEqual(first_seen(BOOK, text), 2)

    def test_there_only_for_a_time(self):
        book = (add(1, "a", None, "abc"), add(3, "a", sign(1, "a", 0), "q"), undo(5, "a", (3, "a")))
        self.assertEqual((first_seen(book, "aq"), first_seen(book, "q"), first_seen(book, "ab")), (3, 3, 1))

    def test_several_times(self):
        book = (add(1, "a", None, "ac"), add(2, "a", sign(1, "a", 0), "b"), undo(4, "a", (2, "a")),
                undo(6, "a", (4, "a")))
        self.assertEqual((first_seen(book, "abc"), first_seen(book, "ac")), (2, 1))

    def test_only_when_signs_between_are_gone(self):
        book = (add(1, "a", None, "abc"), drop(9, "b", sign(1, "a", 1)))
        self.assertEqual((first_seen(book, "ac"), first_seen(book, "abc")), (9, 1))

    def test_within_one_time_no_text_is_between(self):
        """Both deeds of time 2 are there at once, so the one alone was never seen."""
        book = (add(1, "a", None, "ab"), add(2, "a", sign(1, "a", 0), "x"), drop(2, "b", sign(1, "a", 1)))
        self.assertEqual((first_seen(book, "axb"), first_seen(book, "ax")), (None, 2))

    def test_random_books(self):
        for book in random_books(40):
            texts = texts_of(book)
            for text in {part for whole in texts for part in (whole, whole[1:3], whole[-1:], whole[::-1])}:
                wanted = next((time for time, then in enumerate(texts) if text in then), None)
                with self.subTest(book=book, text=text):
                    self.assertEqual(first_seen(book, text), wanted)


class Lost(unittest.TestCase):
    def test_none(self):
        self.assertEqual((lost(()), lost(BOOK), lost((unmark(1, "a", "x"),))), ([], [], []))

    def test_an_add_undone_is_not_in_effect(self):
        self.assertEqual(lost((ONE, undo(3, "b", (2, "a")))), [])
        self.assertEqual(lost((ONE, TWO, DROP, undo(5, "b", (2, "b")))), [])

    def test_all_signs_dropped(self):
        self.assertEqual(lost((ONE, TWO, DROP)), [((2, "b"), "xy")])

    def test_by_several_drops(self):
        book = (ONE, drop(3, "a", sign(2, "a", 0), sign(2, "a", 2)), drop(4, "b", sign(2, "a", 1)))
        self.assertEqual((lost(book), lost(book[:2])), ([((2, "a"), "abc")], []))

    def test_a_sign_left(self):
        for left in range(3):
            gone = [sign(2, "a", number) for number in range(3) if number != left]
            self.assertEqual(lost((ONE, drop(3, "b", *gone))), [])

    def test_a_drop_undone(self):
        self.assertEqual(lost(BOOK), [])
        self.assertEqual(lost(BOOK + (undo(8, "c", (7, "a")),)), [((2, "b"), "xy")])

    def test_signs_of_others_within_it_count_for_nothing(self):
        book = (ONE, add(3, "b", sign(2, "a", 0), "q"), drop(4, "b", *[sign(2, "a", number) for number in range(3)]))
        self.assertEqual(lost(book), [((2, "a"), "abc")])

    def test_several(self):
        book = (ONE, TWO, drop(4, "a", *[sign(2, "a", number) for number in range(3)]),
                drop(4, "b", sign(2, "b", 0), sign(2, "b", 1)))
        self.assertEqual(lost(book), [((2, "a"), "abc"), ((2, "b"), "xy")])

    def test_random_books(self):
        found = 0
        for book in random_books(200):
            wanted = []
            for deed in book:
                if deed[0] == "add" and effect_by_words(book, deed[1]):
                    if not any(there_by_words(book, (deed[1], number)) for number in range(len(deed[3]))):
                        wanted.append((deed[1], deed[3]))
            with self.subTest(book=book):
                self.assertEqual(lost(book), wanted)
            found += bool(wanted)
        self.assertGreater(found, 10)


class ByHand(unittest.TestCase):
    def test_a_hand_without_deeds(self):
        self.assertEqual((by_hand(BOOK, "h"), by_hand((), "a")), ([], []))

    def test_each_word(self):
        book = (add(1, "a", None, "abc"), drop(2, "a", sign(1, "a", 0)), mark(3, "a", "x", *WHOLE),
                unmark(4, "a", "x"), undo(5, "a", (2, "a")))
        wanted = [("add", 1, 1), ("drop", 1, 0), ("mark", 1, 1), ("undo", 1, 1), ("unmark", 1, 1)]
        self.assertEqual(by_hand(book, "a"), wanted)

    def test_one_word_by_itself(self):
        for deed in (add(1, "c", None, "q"), unmark(1, "c", "x"), mark(1, "c", "x", *WHOLE)):
            self.assertEqual(by_hand((deed,), "c"), [(deed[0], 1, 1)])

    def test_deeds_of_others_do_not_count(self):
        self.assertEqual(by_hand(BOOK, "a"), [("add", 1, 1), ("undo", 1, 1)])
        self.assertEqual(by_hand(BOOK, "b"), [("add", 1, 1)])
        self.assertEqual(by_hand(BOOK, "c"), [("drop", 1, 0)])

    def test_undone_by_others_too(self):
        book = (ONE, TWO, undo(3, "b", (2, "a")), undo(3, "c", (2, "b")))
        self.assertEqual((by_hand(book, "a"), by_hand(book, "b")), ([("add", 1, 0)], [("add", 1, 0), ("undo", 1, 1)]))

    def test_undos_undone(self):
        book = (ONE, undo(3, "a", (2, "a")), undo(4, "a", (3, "a")))
        self.assertEqual(by_hand(book, "a"), [("add", 1, 1), ("undo", 2, 1)])
        self.assertEqual(by_hand(book + (undo(5, "b", (4, "a")),), "a"), [("add", 1, 0), ("undo", 2, 1)])

    def test_several_of_one_word(self):
        adds = tuple(add(time, "d", None, "q") for time in range(1, 6))
        book = adds + (undo(7, "d", (2, "d")), undo(8, "d", (4, "d")))
        self.assertEqual(by_hand(book, "d"), [("add", 5, 3), ("undo", 2, 2)])

    def test_random_books(self):
        for book in random_books(60) + random_marked_books(60):
            for hand in "abch":
                own = [deed for deed in book if deed[1][1] == hand]
                wanted = []
                for word in sorted({deed[0] for deed in own}):
                    ids = [deed[1] for deed in own if deed[0] == word]
                    wanted.append((word, len(ids), sum(effect_by_words(book, one) for one in ids)))
                with self.subTest(book=book, hand=hand):
                    self.assertEqual(by_hand(book, hand), wanted)


if __name__ == "__main__":
    unittest.main()
