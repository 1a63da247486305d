"""[0.2] (a), [2.1], [2.2], [5.2]: the order of signs, the text, what is in effect, what leans."""

import inspect
import random
import unittest

from helper import (add, drop, effect_by_words, leaning_by_words, mark, order_by_insertion, random_books, random_part,
                    sign, there_by_words, undo, unmark)
from staymark.deeds import is_book
from staymark.errors import NoDeed, NoSign
from staymark.orders import authors_of, in_effect, is_there, leaning_on, signs_of, text_of

TO_BE = (
    add(1, "a", None, "to be"),
    add(2, "b", sign(1, "a", 4), ", or not"),
    mark(3, "b", "x", (sign(1, "a", 3), "r"), (sign(2, "b", 0), "l")),
    undo(4, "a", (3, "b")),
)


def ids_of(book):
    return [pair[0] for pair in signs_of(book)]


def all_text(book):
    return "".join(pair[1] for pair in signs_of(book))


class Interface(unittest.TestCase):
    def test_arguments(self):
        for function in (signs_of, text_of, authors_of):
            self.assertEqual(len(inspect.signature(function).parameters), 1)
        for function in (in_effect, is_there, leaning_on):
            self.assertEqual(len(inspect.signature(function).parameters), 2)

    def test_empty_book(self):
        self.assertEqual(signs_of(()), [])
        self.assertEqual(text_of(()), "")
        self.assertEqual(authors_of(()), [])

    def test_kinds(self):
        self.assertIsInstance(signs_of(TO_BE), list)
        self.assertIsInstance(authors_of(TO_BE), list)
        self.assertIsInstance(leaning_on(TO_BE, (1, "a")), list)
        for pair in signs_of(TO_BE) + authors_of(TO_BE):
            self.assertIsInstance(pair, tuple)

    def test_told_lists_are_new_ones(self):
        for tell in (signs_of, authors_of, lambda book: leaning_on(book, (1, "a"))):
            first = tell(TO_BE)
            kept = list(first)
            first.clear()
            second = tell(TO_BE)
            self.assertEqual(second, kept)
            second.append("more")
            self.assertEqual(tell(TO_BE), kept)

    def test_told_empty_lists_are_new_ones(self):
        for tell in (lambda: signs_of(()), lambda: authors_of(()), lambda: leaning_on(TO_BE, (4, "a"))):
            tell().append("more")
            self.assertEqual(tell(), [])

    def test_books_are_not_changed(self):
        for book in random_books(20):
            before = tuple(book)
            text = repr(book)
            told = [signs_of(book), text_of(book), authors_of(book)]
            for deed in book:
                told += [in_effect(book, deed[1]), leaning_on(book, deed[1])]
            for one in ids_of(book):
                told.append(is_there(book, one))
            self.assertEqual((book, repr(book)), (before, text))

    def test_nothing_is_kept_from_one_book_to_the_other(self):
        other = (add(1, "a", None, "other"), drop(2, "b", sign(1, "a", 0)))
        before = (signs_of(other), text_of(other), leaning_on(other, (1, "a")))
        signs_of(TO_BE), text_of(TO_BE), leaning_on(TO_BE, (1, "a"))
        self.assertEqual((signs_of(other), text_of(other), leaning_on(other, (1, "a"))), before)


class Order(unittest.TestCase):
    def test_one_text(self):
        self.assertEqual(signs_of((add(3, "c", None, "abc"),)),
                         [(((3, "c"), 0), "a"), (((3, "c"), 1), "b"), (((3, "c"), 2), "c")])

    def test_of_the_document(self):
        self.assertEqual(all_text(TO_BE), "to be, or not")

    def test_several_at_the_beginning(self):
        book = (add(1, "a", None, "A1"), add(1, "b", None, "B1"), add(2, "a", None, "A2"), add(10, "a", None, "A10"))
        self.assertEqual(all_text(book), "A10A2B1A1")

    def test_several_behind_one_sign(self):
        behind = sign(1, "a", 1)
        book = (add(1, "a", None, "[]"), add(2, "a", behind, "c"), add(2, "b", behind, "d"), add(3, "a", behind, "e"))
        self.assertEqual(all_text(book), "[]edc")

    def test_several_behind_one_sign_within_a_text(self):
        behind = sign(1, "a", 0)
        book = (add(1, "a", None, "[]"), add(2, "a", behind, "c"), add(2, "b", behind, "d"), add(9, "a", behind, "e"),
                add(10, "a", behind, "f"))
        self.assertEqual(all_text(book), "[fedc]")

    def test_time_goes_ahead_of_hand(self):
        behind = sign(1, "a", 0)
        book = (add(1, "a", None, "()"), add(2, "h", behind, "h"), add(3, "a", behind, "a"))
        self.assertEqual(all_text(book), "(ah)")

    def test_a_text_into_a_text(self):
        book = (add(1, "a", None, "abc"), add(2, "b", sign(1, "a", 0), "123"), add(3, "c", sign(2, "b", 1), "xyz"),
                add(4, "a", sign(3, "c", 2), "!"))
        self.assertEqual(all_text(book), "a12xyz!3bc")

    def test_each_is_followed_by_what_stands_behind_it(self):
        one = sign(1, "a", 0)
        book = (add(1, "a", None, "ab"), add(2, "a", one, "cd"), add(3, "a", one, "ef"),
                add(4, "a", sign(2, "a", 0), "g"), add(5, "a", sign(3, "a", 1), "h"),
                add(6, "a", sign(3, "a", 0), "i"), add(7, "a", sign(2, "a", 1), "j"))
        self.assertEqual(all_text(book), "aeifhcgdjb")

    def test_behind_the_last_sign(self):
        book = (add(1, "a", None, "ab"), add(2, "a", None, "cd"), add(3, "a", sign(1, "a", 1), "e"),
                add(4, "b", sign(2, "a", 1), "f"))
        self.assertEqual(all_text(book), "cdfabe")

    def test_dropped_and_undone_signs_stand_there_too(self):
        book = (add(1, "a", None, "ab"), add(2, "a", sign(1, "a", 0), "c"), drop(3, "a", sign(1, "a", 0)),
                undo(4, "a", (2, "a")), add(5, "a", sign(2, "a", 0), "d"))
        self.assertEqual(all_text(book), "acdb")
        self.assertEqual(text_of(book), "db")

    def test_random_books(self):
        for book in random_books(150):
            with self.subTest(book=book):
                self.assertEqual(signs_of(book), order_by_insertion(book))

    def test_long_chain(self):
        chain = [add(1, "a", None, "xy")] + [add(time, "a", sign(time - 1, "a", 0), "xy") for time in range(2, 3001)]
        self.assertEqual(text_of(tuple(chain)), "x" * 3000 + "y" * 3000)


class Stays(unittest.TestCase):
    """[0.2] (a)"""

    def test_order_is_the_same_in_parts_of_a_book(self):
        source = random.Random(3)
        for book in random_books(150):
            part = random_part(source, book)
            with self.subTest(book=book, part=part):
                self.assertTrue(is_book(part))
                held = {one: True for one in ids_of(part)}
                self.assertEqual(ids_of(part), [one for one in ids_of(book) if one in held])

    def test_order_is_the_same_as_deeds_come(self):
        for book in random_books(40):
            last = ids_of(book)
            for many in range(len(book)):
                held = ids_of(book[:many])
                with self.subTest(book=book, many=many):
                    self.assertEqual(held, [one for one in last if one in held])

    def test_a_text_stays_together(self):
        for book in random_books(150):
            order = ids_of(book)
            behind = {deed[1]: deed[2] for deed in book if deed[0] == "add"}
            for deed in book:
                if deed[0] != "add":
                    continue
                first = order.index((deed[1], 0))
                last = order.index((deed[1], len(deed[3]) - 1))
                for one in order[first:last + 1]:
                    with self.subTest(book=book, deed=deed, one=one):
                        self.assertTrue(self.was_added_into(one, deed[1], behind))

    def was_added_into(self, one, deed_id, behind):
        while one is not None and one[0] != deed_id:
            one = behind[one[0]]
        return one is not None


class Effect(unittest.TestCase):
    def effects(self, book):
        return [in_effect(book, deed[1]) for deed in book]

    def test_without_undo(self):
        book = (add(1, "a", None, "ab"), drop(2, "a", sign(1, "a", 0)), unmark(3, "a", "x"))
        self.assertEqual(self.effects(book), [True, True, True])
        self.assertIs(in_effect(book, (1, "a")), True)

    def test_undone(self):
        self.assertEqual(self.effects(TO_BE), [True, True, False, True])
        self.assertIs(in_effect(TO_BE, (3, "b")), False)

    def test_undo_undone(self):
        book = (add(1, "a", None, "ab"), undo(2, "a", (1, "a")), undo(3, "b", (2, "a")))
        self.assertEqual(self.effects(book), [True, False, True])
        self.assertEqual(text_of(book), "ab")
        book = book + (undo(4, "a", (3, "b")),)
        self.assertEqual(self.effects(book), [False, True, False, True])
        self.assertEqual(text_of(book), "")

    def test_several_undos_of_one(self):
        book = (add(1, "a", None, "ab"), undo(2, "a", (1, "a")), undo(2, "b", (1, "a")), undo(3, "a", (2, "a")))
        self.assertEqual(self.effects(book), [False, False, True, True])
        book = book + (undo(3, "b", (2, "b")),)
        self.assertEqual(self.effects(book), [True, False, False, True, True])

    def test_undo_of_each_word(self):
        base = (add(1, "a", None, "ab"), drop(2, "a", sign(1, "a", 0)), unmark(3, "a", "x"), undo(4, "a", (3, "a")),
                mark(5, "a", "x", (None, "l"), (None, "r")))
        for deed in base:
            self.assertIs(in_effect(base + (undo(9, "a", deed[1]),), deed[1]), False)

    def test_what_leans_on_an_undone_deed_is_in_effect(self):
        book = (add(1, "a", None, "ab"), add(2, "a", sign(1, "a", 0), "c"), undo(3, "a", (1, "a")))
        self.assertEqual(self.effects(book), [False, True, True])
        self.assertEqual(text_of(book), "c")

    def test_no_deed(self):
        for other in [(5, "a"), (4, "b"), (1, "b"), (0, "a"), (-1, "a"), (3, "z")]:
            with self.subTest(other=other), self.assertRaises(NoDeed):
                in_effect(TO_BE, other)
        with self.assertRaises(NoDeed):
            in_effect((), (1, "a"))

    def test_random_books(self):
        for book in random_books(150):
            with self.subTest(book=book):
                self.assertEqual(self.effects(book), [effect_by_words(book, deed[1]) for deed in book])

    def test_long_chain(self):
        chain = [add(1, "a", None, "x")] + [undo(time, "a", (time - 1, "a")) for time in range(2, 3001)]
        self.assertIs(in_effect(tuple(chain), (1, "a")), False)
        self.assertIs(in_effect(tuple(chain[:-1]), (1, "a")), True)


class There(unittest.TestCase):
    BOOK = (add(1, "a", None, "abc"), drop(2, "b", sign(1, "a", 0), sign(1, "a", 2)), add(3, "a", sign(1, "a", 1), "d"))

    def there(self, book):
        return [is_there(book, one) for one in ids_of(book)]

    def test_dropped(self):
        self.assertEqual(text_of(self.BOOK), "bd")
        self.assertEqual(self.there(self.BOOK), [False, True, True, False])
        self.assertIs(is_there(self.BOOK, sign(1, "a", 1)), True)
        self.assertIs(is_there(self.BOOK, sign(1, "a", 0)), False)

    def test_drop_undone(self):
        book = self.BOOK + (undo(4, "c", (2, "b")),)
        self.assertEqual(text_of(book), "abdc")
        self.assertEqual(self.there(book), [True] * 4)

    def test_undo_of_drop_undone(self):
        book = self.BOOK + (undo(4, "c", (2, "b")), undo(5, "a", (4, "c")))
        self.assertEqual(text_of(book), "bd")

    def test_dropped_twice(self):
        book = self.BOOK + (drop(4, "c", sign(1, "a", 0)), undo(5, "a", (2, "b")))
        self.assertEqual(text_of(book), "bdc")
        self.assertEqual(text_of(book + (undo(6, "a", (4, "c")),)), "abdc")

    def test_add_undone(self):
        book = self.BOOK + (undo(4, "c", (1, "a")),)
        self.assertEqual(text_of(book), "d")
        self.assertEqual(self.there(book), [False, False, True, False])
        self.assertEqual(text_of(book + (undo(5, "c", (2, "b")),)), "d")
        self.assertEqual(text_of(book + (undo(5, "c", (4, "c")),)), "bd")

    def test_no_sign(self):
        others = [sign(1, "a", 3), sign(1, "a", -1), sign(3, "a", 1), sign(1, "a", 20)]
        others += [sign(1, "b", 0), sign(9, "a", 0), sign(2, "b", 0), sign(2, "b", -1)]
        others += [sign(0, "a", 0), sign(1, "z", 0)]
        for other in others:
            with self.subTest(other=other), self.assertRaises(NoSign):
                is_there(self.BOOK, other)
        with self.assertRaises(NoSign):
            is_there((), sign(1, "a", 0))

    def test_no_sign_of_deeds_that_add_none(self):
        for deed in [unmark(4, "a", "name"), mark(4, "a", "name", (None, "l"), (None, "r")), undo(4, "a", (1, "a"))]:
            with self.subTest(deed=deed), self.assertRaises(NoSign):
                is_there(self.BOOK + (deed,), sign(4, "a", 0))

    def test_random_books(self):
        for book in random_books(150):
            order = order_by_insertion(book)
            with self.subTest(book=book):
                self.assertEqual(self.there(book), [there_by_words(book, pair[0]) for pair in order])
                self.assertEqual(text_of(book), "".join(pair[1] for pair in order if there_by_words(book, pair[0])))


class Authors(unittest.TestCase):
    def test_hands(self):
        self.assertEqual(authors_of(TO_BE), [("a", "to be"), ("b", ", or not")])

    def test_neighbours_by_one_hand(self):
        book = (add(1, "a", None, "ab"), add(2, "a", sign(1, "a", 1), "cd"), add(3, "b", sign(2, "a", 1), "ef"),
                add(4, "b", None, "gh"))
        self.assertEqual(authors_of(book), [("b", "gh"), ("a", "abcd"), ("b", "ef")])

    def test_into_a_text(self):
        book = (add(1, "a", None, "ab"), add(2, "b", sign(1, "a", 0), "x"))
        self.assertEqual(authors_of(book), [("a", "a"), ("b", "x"), ("a", "b")])

    def test_neighbours_once_what_was_between_is_dropped(self):
        book = (add(1, "a", None, "ab"), add(2, "b", sign(1, "a", 0), "x"), drop(3, "c", sign(2, "b", 0)))
        self.assertEqual(authors_of(book), [("a", "ab")])
        self.assertEqual(authors_of(book[:2] + (undo(3, "c", (2, "b")),)), [("a", "ab")])

    def test_empty_text(self):
        book = (add(1, "a", None, "a"), undo(2, "b", (1, "a")))
        self.assertEqual(authors_of(book), [])
        self.assertEqual(authors_of((unmark(1, "a", "x"),)), [])

    def test_random_books(self):
        for book in random_books(100):
            told = authors_of(book)
            shown = [pair for pair in order_by_insertion(book) if there_by_words(book, pair[0])]
            with self.subTest(book=book):
                self.assertEqual([(hand, one) for hand, text in told for one in text],
                                 [(pair[0][0][1], pair[1]) for pair in shown])
                self.assertTrue(all(text for hand, text in told))
                self.assertTrue(all(told[k][0] != told[k + 1][0] for k in range(len(told) - 1)))


class Leaning(unittest.TestCase):
    BOOK = (
        add(1, "a", None, "ab"), add(1, "b", None, "c"), add(2, "a", sign(1, "a", 0), "d"),
        drop(3, "c", sign(2, "a", 0)), undo(4, "a", (3, "c")), unmark(5, "a", "x"), undo(6, "b", (4, "a")),
        mark(7, "a", "x", (None, "l"), (sign(1, "b", 0), "r")),
        mark(8, "a", "x", (sign(1, "b", 0), "l"), (None, "r")),
    )

    def test_over_several_steps(self):
        self.assertEqual(leaning_on(self.BOOK, (1, "a")), [(2, "a"), (3, "c"), (4, "a"), (6, "b")])
        self.assertEqual(leaning_on(self.BOOK, (2, "a")), [(3, "c"), (4, "a"), (6, "b")])
        self.assertEqual(leaning_on(self.BOOK, (3, "c")), [(4, "a"), (6, "b")])

    def test_anchors_lean(self):
        self.assertEqual(leaning_on(self.BOOK, (1, "b")), [(7, "a"), (8, "a")])

    def test_on_which_none_leans(self):
        for which in [(5, "a"), (6, "b"), (7, "a"), (8, "a")]:
            self.assertEqual(leaning_on(self.BOOK, which), [])

    def test_by_two_ways_once(self):
        book = (add(1, "a", None, "ab"), add(2, "a", sign(1, "a", 0), "c"),
                drop(3, "a", sign(1, "a", 0), sign(1, "a", 1), sign(2, "a", 0)))
        self.assertEqual(leaning_on(book, (1, "a")), [(2, "a"), (3, "a")])

    def test_marks_of_one_name_do_not_lean(self):
        book = (mark(1, "a", "x", (None, "l"), (None, "r")), unmark(2, "a", "x"))
        self.assertEqual(leaning_on(book, (1, "a")), [])

    def test_random_books(self):
        for book in random_books(100):
            for deed in book:
                with self.subTest(book=book, deed=deed):
                    self.assertEqual(leaning_on(book, deed[1]), leaning_by_words(book, deed[1]))

    def test_long_chain(self):
        chain = [add(1, "a", None, "x")] + [undo(time, "a", (time - 1, "a")) for time in range(2, 3001)]
        self.assertEqual(leaning_on(tuple(chain), (1, "a")), [(time, "a") for time in range(2, 3001)])


if __name__ == "__main__":
    unittest.main()
