"""[0.3], [1.1], [1.2], [1.3]: is_deed and is_book."""

import copy
import inspect
import random
import unittest

from helper import SIGNS, add, drop, mark, random_books, random_part, sign, undo, unmark
from staymark.deeds import is_book, is_deed

ONE = sign(1, "a", 0)
TWO = sign(1, "a", 1)

# One plain deed of each word, all with a time that leaves room for what they name.
PLAIN = [
    add(3, "b", ONE, "to be"),
    drop(3, "b", ONE, TWO),
    mark(3, "b", "x", (ONE, "r"), (TWO, "l")),
    unmark(3, "b", "x"),
    undo(3, "b", (1, "a")),
]


def nested(thing, depth, kind):
    for _ in range(depth):
        thing = kind([thing])
    return thing


def odd_things():
    """Things of every kind that [0.3] lists, none of them a deed or a part of one."""
    things = [True, False, 0, 1, -1, 7, 10 ** 30, "", "a", "add", "drop", "l", [], (), [None], (None,)]
    things += [[[]], ((),), (1, "z"), (0, "a"), ["a", 1], [1, "a"], (True, "a"), ("a", 1), (1, "a", 0), (1,)]
    things += [nested(None, 10, kind) for kind in (list, tuple)]
    things += [nested(("add", (1, "a"), None, "x"), 10, kind) for kind in (list, tuple)]
    things += [nested((1, "a"), 11, tuple), nested("x", 12, list), nested(True, 9, tuple)]
    return things


class DeedCase(unittest.TestCase):
    def assert_deeds(self, deeds):
        for deed in deeds:
            with self.subTest(deed=deed):
                self.assertIs(is_deed(deed), True)

    def assert_no_deeds(self, things):
        for thing in things:
            with self.subTest(thing=thing):
                self.assertIs(is_deed(thing), False)


class Words(DeedCase):
    def test_interface(self):
        for function in (is_deed, is_book):
            self.assertEqual(len(inspect.signature(function).parameters), 1)

    def test_each_word(self):
        self.assert_deeds(PLAIN)

    def test_other_words(self):
        for deed in PLAIN:
            self.assert_no_deeds((word,) + deed[1:] for word in ("", "Add", "adds", "do", "ADD", " add", "markx"))

    def test_words_of_other_kinds(self):
        for deed in PLAIN:
            self.assert_no_deeds((word,) + deed[1:] for word in (None, True, 0, ["add"], ("add",), [], ()))

    def test_words_of_other_forms(self):
        for deed in PLAIN:
            for other in PLAIN:
                if {deed[0], other[0]} != {"unmark", "undo"} and deed[0] != other[0]:
                    self.assert_no_deeds([(other[0],) + deed[1:]])
        self.assert_no_deeds([("undo", (3, "b"), "x"), ("unmark", (3, "b"), (1, "a"))])

    def test_too_few_and_too_many_parts(self):
        for deed in PLAIN:
            self.assert_no_deeds(deed[:many] for many in range(len(deed)))
            self.assert_no_deeds(deed + (more,) for more in (None, "x", (1, "a"), ()))


class AnyThing(DeedCase):
    def test_no_deeds(self):
        self.assert_no_deeds([None] + odd_things())

    def test_lists_in_the_stead_of_tuples(self):
        for deed in PLAIN:
            self.assert_no_deeds([list(deed)])
            for place, part in enumerate(deed):
                if isinstance(part, tuple):
                    self.assert_no_deeds([deed[:place] + (list(part),) + deed[place + 1:]])
        self.assert_no_deeds([
            ("add", (3, "b"), ([1, "a"], 0), "x"),
            ("drop", (3, "b"), ([(1, "a"), 0],)),
            ("drop", (3, "b"), (([1, "a"], 0),)),
            ("mark", (3, "b"), "x", ([(1, "a"), 0], "l"), (None, "r")),
            ("mark", (3, "b"), "x", (None, "l"), (([1, "a"], 0), "r")),
        ])

    def test_odd_things_in_the_stead_of_a_part(self):
        for deed in PLAIN:
            for place in range(1, len(deed)):
                for thing in odd_things():
                    if isinstance(deed[place], str) and thing in ("a", "l", "add", "drop"):
                        continue
                    self.assert_no_deeds([deed[:place] + (thing,) + deed[place + 1:]])

    def test_none_in_the_stead_of_a_part(self):
        for deed in PLAIN:
            for place in range(1, len(deed)):
                if (deed[0], place) != ("add", 2):
                    self.assert_no_deeds([deed[:place] + (None,) + deed[place + 1:]])

    def test_truths_in_the_stead_of_whole_numbers(self):
        self.assert_deeds([unmark(1, "a", "x"), add(3, "b", sign(1, "a", 1), "x"), undo(3, "b", (1, "a"))])
        self.assert_no_deeds([
            unmark(True, "a", "x"),
            add(3, "b", sign(True, "a", 1), "x"),
            add(3, "b", sign(1, "a", True), "x"),
            add(3, "b", sign(1, "a", False), "x"),
            drop(3, "b", sign(1, "a", False)),
            drop(3, "b", sign(True, "a", 0)),
            mark(3, "b", "x", (sign(1, "a", True), "l"), (None, "r")),
            mark(3, "b", "x", (None, "l"), (sign(True, "a", 0), "r")),
            undo(3, "b", (True, "a")),
        ])

    def test_is_not_changed(self):
        for thing in [["add", [1, "a"], None, "x"], ("drop", (3, "b"), [ONE, TWO]), [[add(1, "a", None, "x")]]]:
            before = copy.deepcopy(thing)
            is_deed(thing)
            is_book(thing)
            self.assertEqual(thing, before)


class Ids(DeedCase):
    def test_times(self):
        self.assert_deeds(unmark(time, "a", "x") for time in (1, 2, 999999, 10 ** 30))
        self.assert_no_deeds(unmark(time, "a", "x") for time in (0, -1, "1", None, (1,)))

    def test_hands(self):
        self.assert_deeds(unmark(1, hand, "x") for hand in "abcdefgh")
        self.assert_no_deeds(unmark(1, hand, "x") for hand in SIGNS if hand not in "abcdefgh")
        self.assert_no_deeds(unmark(1, hand, "x") for hand in ("", "ab", "abcdefgh", 1, None, ["a"], ("a",)))

    def test_named_ids(self):
        for named in [(0, "a"), (1, "i"), (1, ""), (1, "ab"), (1, 1), ("a", 1), (1, "a", 0), (1,), ()]:
            self.assert_no_deeds([
                undo(3, "b", named), add(3, "b", (named, 0), "x"), drop(3, "b", (named, 0)),
                mark(3, "b", "x", ((named, 0), "l"), (None, "r")),
                mark(3, "b", "x", (None, "l"), ((named, 0), "r")),
            ])

    def test_numbers_of_signs(self):
        for number in (0, 1, 19, 20, 10 ** 30):
            named = sign(1, "a", number)
            self.assert_deeds([add(2, "a", named, "x"), drop(2, "a", named)])
            self.assert_deeds([mark(2, "a", "x", (named, "l"), (named, "r"))])
        for number in (-1, "0", None, (0,), [0]):
            named = sign(1, "a", number)
            self.assert_no_deeds([add(2, "a", named, "x"), drop(2, "a", named)])
            self.assert_no_deeds([mark(2, "a", "x", (named, "l"), (None, "r"))])

    def test_a_deed_in_the_stead_of_a_sign(self):
        self.assert_no_deeds([add(3, "b", (1, "a"), "x"), drop(3, "b", (1, "a")), undo(3, "b", ONE)])
        self.assert_no_deeds([add(3, "b", ONE + (0,), "x"), add(3, "b", ONE[:1], "x")])


class Times(DeedCase):
    def deeds_that_name(self, named):
        return [
            add(5, "d", (named, 0), "x"),
            drop(5, "d", (named, 0)),
            mark(5, "d", "x", ((named, 0), "l"), (None, "l")),
            mark(5, "d", "x", (None, "r"), ((named, 0), "r")),
            undo(5, "d", named),
        ]

    def test_lesser(self):
        for named in [(1, "a"), (4, "a"), (4, "d"), (4, "h")]:
            self.assert_deeds(self.deeds_that_name(named))

    def test_not_lesser(self):
        for named in [(5, "a"), (5, "c"), (5, "d"), (5, "h"), (6, "a"), (99, "d")]:
            self.assert_no_deeds(self.deeds_that_name(named))

    def test_each_dropped_sign_counts(self):
        self.assert_deeds([drop(5, "d", sign(1, "a", 0), sign(4, "h", 0))])
        self.assert_no_deeds([drop(5, "d", sign(1, "a", 0), sign(5, "a", 0))])

    def test_none_names_nothing(self):
        self.assert_deeds([add(1, "a", None, "x"), mark(1, "a", "x", (None, "l"), (None, "r"))])


class Parts(DeedCase):
    def test_lengths_of_texts(self):
        self.assert_deeds(add(1, "a", None, "x" * many) for many in (1, 2, 19, 20))
        self.assert_no_deeds(add(1, "a", None, "x" * many) for many in (0, 21, 22, 400))

    def test_signs_of_texts(self):
        self.assert_deeds(add(1, "a", None, one) for one in SIGNS)
        for one in ("\n", "\t", "\x00", "\x1f", "\x7f", "\x80", "\xe9", "\u2026", "\U0001f600"):
            self.assert_no_deeds([add(1, "a", None, one), add(1, "a", None, "x" + one), add(1, "a", None, one + "x")])

    def test_texts_of_other_kinds(self):
        self.assert_no_deeds(add(1, "a", None, text) for text in (None, 1, True, ["x"], ("x",), ["x", "y"]))

    def test_lengths_of_drops(self):
        signs = [sign(1, "a", number) for number in range(402)]
        self.assert_deeds(drop(2, "a", *signs[:many]) for many in (1, 2, 399, 400))
        self.assert_no_deeds(drop(2, "a", *signs[:many]) for many in (0, 401, 402))

    def test_rising_drops(self):
        self.assert_deeds([
            drop(9, "a", sign(1, "a", 0), sign(1, "a", 1), sign(1, "b", 0), sign(2, "a", 0)),
            drop(9, "a", sign(1, "a", 9), sign(1, "a", 10)),
            drop(9, "a", sign(1, "h", 5), sign(2, "a", 0)),
        ])

    def test_drops_that_do_not_rise(self):
        self.assert_no_deeds([
            drop(9, "a", sign(1, "a", 1), sign(1, "a", 0)),
            drop(9, "a", sign(1, "b", 0), sign(1, "a", 0)),
            drop(9, "a", sign(2, "a", 0), sign(1, "h", 0)),
            drop(9, "a", sign(1, "a", 0), sign(1, "a", 0)),
            drop(9, "a", sign(1, "a", 0), sign(1, "a", 2), sign(1, "a", 1)),
            drop(9, "a", sign(1, "a", 0), sign(1, "a", 1), sign(1, "a", 1)),
        ])

    def test_drops_of_other_things(self):
        self.assert_no_deeds(drop(9, "a", ONE, thing) for thing in [None, "x", 1, True, [], (), [ONE]])
        self.assert_no_deeds(drop(9, "a", thing) for thing in [None, "x", 1, True, [], (), [ONE], (ONE,)])
        self.assert_no_deeds([("drop", (9, "a"), ONE), ("drop", (9, "a"), "xy"), ("drop", (9, "a"), 1)])

    def test_names(self):
        good = ["a", "z", "x", "abcdef", "zzzzzz"]
        bad = ["", "abcdefg", "A", "aB", "a b", " ", "a1", "1", "a_", "`", "{", "\xe9", "a\n", "-"]
        bad += [None, 1, True, ["a"], ("a",)]
        self.assert_deeds(unmark(1, "a", name) for name in good)
        self.assert_no_deeds(unmark(1, "a", name) for name in bad)
        self.assert_deeds(mark(1, "a", name, (None, "l"), (None, "r")) for name in good)
        self.assert_no_deeds(mark(1, "a", name, (None, "l"), (None, "r")) for name in bad)

    def test_anchors(self):
        plain = (None, "l")
        for anchor in [(None, "l"), (None, "r"), (ONE, "l"), (ONE, "r")]:
            self.assert_deeds([mark(3, "b", "x", anchor, plain), mark(3, "b", "x", plain, anchor)])
        for anchor in [None, (), (None,), ("l",), (ONE,), ("l", None), (None, "l", "r"), (None, "lr"), (None, "")]:
            self.assert_no_deeds([mark(3, "b", "x", anchor, plain), mark(3, "b", "x", plain, anchor)])
        for anchor in [(None, "L"), (None, None), (None, 0), (None, ["l"]), ((1, "a"), "l"), ("x", "l"), (0, "l")]:
            self.assert_no_deeds([mark(3, "b", "x", anchor, plain), mark(3, "b", "x", plain, anchor)])
        self.assert_no_deeds(mark(3, "b", "x", plain, (None, side)) for side in SIGNS if side not in "lr")
        self.assert_no_deeds([mark(3, "b", "x", [None, "l"], plain), mark(3, "b", "x", plain, [ONE, "r"])])


class BookCase(unittest.TestCase):
    def assert_books(self, books):
        for book in books:
            with self.subTest(book=book):
                self.assertIs(is_book(book), True)

    def assert_no_books(self, things):
        for thing in things:
            with self.subTest(thing=thing):
                self.assertIs(is_book(thing), False)


class Books(BookCase):
    BASE = (add(1, "a", None, "to be"), unmark(1, "b", "x"), add(2, "a", sign(1, "a", 4), "!"))

    def test_books(self):
        self.assert_books([(), self.BASE[:1], self.BASE[:2], self.BASE, (self.BASE[1],), (self.BASE[0], self.BASE[2])])
        self.assert_books([(self.BASE[0],) + (deed,) for deed in PLAIN])

    def test_random_books_and_parts_of_them(self):
        source = random.Random(1)
        books = random_books(60)
        self.assert_books(books)
        self.assert_books(random_part(source, book) for book in books)

    def test_any_thing(self):
        things = [thing for thing in odd_things() if thing != ()]
        self.assert_no_books([None] + things)
        self.assert_no_books((thing,) for thing in [None] + things + [()])
        self.assert_no_books((self.BASE[0], thing) for thing in [None] + things + [()])

    def test_lists_in_the_stead_of_tuples(self):
        self.assert_no_books([[], list(self.BASE), (list(self.BASE[0]),), (self.BASE,), [self.BASE]])
        self.assert_no_books([(("add", [1, "a"], None, "x"),), self.BASE[0]])

    def test_all_deeds_are_deeds(self):
        self.assert_no_books([(add(0, "a", None, "x"),), (add(1, "i", None, "x"),), (add(1, "a", None, ""),)])
        self.assert_no_books([(add(True, "a", None, "x"),), self.BASE + (unmark(3, "a", "X"),)])

    def test_ids_rise(self):
        deeds = [unmark(time, hand, "x") for time in (1, 2, 10) for hand in "ah"]
        self.assert_books([tuple(deeds), tuple(deeds[::2])])
        for place in range(len(deeds) - 1):
            turned = deeds[:place] + [deeds[place + 1], deeds[place]] + deeds[place + 2:]
            self.assert_no_books([tuple(turned)])

    def test_no_id_twice(self):
        one = unmark(1, "a", "x")
        self.assert_no_books([(one, one), (one, unmark(1, "a", "y")), (one, unmark(2, "a", "x"), unmark(2, "a", "x"))])

    def test_named_deeds_are_there(self):
        for deed in PLAIN:
            without = (deed,)
            if deed[0] == "unmark":
                self.assert_books([without])
            else:
                self.assert_no_books([without, (add(1, "b", None, "to be"), deed), (add(2, "a", None, "to be"), deed)])

    def test_each_anchor_is_looked_at(self):
        base = (add(1, "a", None, "x"),)
        self.assert_books([base + (mark(2, "a", "x", (ONE, "l"), (ONE, "r")),)])
        self.assert_no_books([base + (mark(2, "a", "x", (ONE, "l"), (sign(1, "b", 0), "r")),)])
        self.assert_no_books([base + (mark(2, "a", "x", (sign(1, "b", 0), "l"), (ONE, "r")),)])
        self.assert_no_books([base + (mark(2, "a", "x", (ONE, "l"), (TWO, "r")),)])
        self.assert_no_books([base + (mark(2, "a", "x", (TWO, "l"), (ONE, "r")),)])

    def test_each_dropped_sign_is_looked_at(self):
        base = (add(1, "a", None, "xy"),)
        self.assert_books([base + (drop(2, "a", ONE, TWO),)])
        self.assert_no_books([base + (drop(2, "a", ONE, TWO, sign(1, "a", 2)),)])
        self.assert_no_books([base + (drop(2, "a", ONE, sign(1, "b", 0)),)])

    def test_named_signs_are_there(self):
        for many in (1, 5, 20):
            base = (add(1, "a", None, "x" * many),)
            last, beyond = sign(1, "a", many - 1), sign(1, "a", many)
            for named, told in ((last, self.assert_books), (beyond, self.assert_no_books)):
                told([base + (add(2, "a", named, "y"),), base + (drop(2, "a", named),)])
                told([base + (mark(2, "a", "x", (named, "l"), (None, "r")),)])

    def test_signs_of_deeds_that_add_none(self):
        base = (add(1, "a", None, "xy"),)
        for deed in PLAIN[1:]:
            named = sign(3, "b", 0)
            self.assert_books([base + (deed, undo(4, "a", (3, "b")))])
            self.assert_no_books([base + (deed, add(4, "a", named, "y")), base + (deed, drop(4, "a", named))])
            self.assert_no_books([base + (deed, mark(4, "a", "x", (None, "l"), (named, "r")))])

    def test_a_named_deed_may_be_of_any_word(self):
        for deed in PLAIN:
            self.assert_books([(add(1, "a", None, "to be"), deed, undo(9, "h", (3, "b")))])

    def test_signs_of_undone_adds_may_be_named(self):
        base = (add(1, "a", None, "xy"), undo(2, "a", (1, "a")))
        self.assert_books([base + (add(3, "a", ONE, "z"), drop(4, "a", TWO))])

    def test_long_book(self):
        chain = [add(1, "a", None, "x")] + [add(time, "a", sign(time - 1, "a", 0), "x") for time in range(2, 3000)]
        self.assert_books([tuple(chain)])
        self.assert_no_books([tuple(chain[1:])])


if __name__ == "__main__":
    unittest.main()
