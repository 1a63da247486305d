"""[0.2] (b), (d), (e), [6.1], [6.2]: what a hand does, takes and becomes, and hands that meet."""

import inspect
import itertools
import random
import unittest

from helper import add, drop, kinds_of, mark, random_books, sign, undo, unmark
from staymark.deeds import is_book
from staymark.errors import BadBook, NoName, NoneLeft, NoPlace
from staymark.hands import Hand, met
from staymark.joining import joined
from staymark.marks import marks_of, place_of
from staymark.orders import text_of

METHODS = {"add": 2, "drop": 2, "mark": 4, "unmark": 1, "undo": 0, "redo": 0, "take": 1, "become": 1, "known": 0,
           "text": 0}


def hand_with(letter, *texts):
    """A hand that added each text at the end."""
    hand = Hand(letter)
    for text in texts:
        hand.add(len(hand.text()), text)
    return hand


class HandCase(unittest.TestCase):
    def assert_refused(self, hand, error, name, *arguments):
        before = (hand.known(), hand.text())
        with self.subTest(name=name, arguments=arguments):
            with self.assertRaises(error):
                getattr(hand, name)(*arguments)
            self.assertEqual((hand.known(), hand.text()), before)


class Interface(HandCase):
    def test_arguments(self):
        hand = Hand("a")
        for name, many in METHODS.items():
            self.assertEqual(len(inspect.signature(getattr(hand, name)).parameters), many, name)
        self.assertEqual(len(inspect.signature(Hand).parameters), 1)
        self.assertEqual(len(inspect.signature(met).parameters), 2)

    def test_kinds(self):
        hand = Hand("a")
        told = [hand.add(0, "abc"), hand.drop(1, 1), hand.mark("x", 0, 1, "rl"), hand.unmark("x"), hand.undo(),
                hand.redo(), hand.take([]), hand.become("abd"), hand.known()[:1], hand.text()]
        wanted = [add(1, "a", None, "abc"), drop(2, "a", sign(1, "a", 1)),
                  mark(3, "a", "x", (sign(1, "a", 0), "r"), (sign(1, "a", 0), "l")), unmark(4, "a", "x"),
                  undo(5, "a", (4, "a")), undo(6, "a", (5, "a")), 0,
                  [drop(7, "a", sign(1, "a", 2)), add(8, "a", sign(1, "a", 0), "bd")],
                  (add(1, "a", None, "abc"),), "abd"]
        self.assertEqual(kinds_of(told), kinds_of(wanted))
        self.assertTrue(is_book(hand.known()))

    def test_begins_without_deeds(self):
        for letter in "abcdefgh":
            hand = Hand(letter)
            self.assertEqual((hand.known(), hand.text()), ((), ""))
            self.assertEqual(hand.add(0, "x")[1], (1, letter))

    def test_hands_keep_apart(self):
        one, other = Hand("a"), Hand("a")
        one.add(0, "x")
        self.assertEqual((other.known(), other.take([])), ((), 0))
        self.assert_refused(other, NoneLeft, "undo")


class Adds(HandCase):
    def test_at_each_place(self):
        for place in range(4):
            hand = hand_with("a", "abc")
            behind = sign(1, "a", place - 1) if place else None
            self.assertEqual(hand.add(place, "XY"), add(2, "a", behind, "XY"))
            self.assertEqual(hand.text(), "abc"[:place] + "XY" + "abc"[place:])

    def test_in_an_empty_text(self):
        hand = Hand("a")
        self.assertEqual(hand.add(0, "x"), add(1, "a", None, "x"))
        hand.drop(0, 1)
        self.assertEqual(hand.add(0, "y"), add(3, "a", None, "y"))

    def test_behind_the_sign_that_is_there(self):
        hand = hand_with("a", "abc")
        hand.drop(1, 1)
        self.assertEqual(hand.add(1, "x"), add(3, "a", sign(1, "a", 0), "x"))
        self.assertEqual(hand.text(), "axc")

    def test_no_place(self):
        for place in (-1, -3, 4, 5, 99):
            self.assert_refused(hand_with("a", "abc"), NoPlace, "add", place, "x")
        for place in (-1, 1):
            self.assert_refused(Hand("a"), NoPlace, "add", place, "x")

    def test_lengths(self):
        for many in (1, 20):
            self.assertEqual(hand_with("a", "x" * many).text(), "x" * many)

    def test_lengths_beyond_the_bounds_are_not_refused(self):
        for many in (0, 21, 25):
            hand = hand_with("a", "ab")
            self.assertEqual(hand.add(1, "x" * many), add(2, "a", sign(1, "a", 0), "x" * many))
            self.assertEqual(hand.text(), "a" + "x" * many + "b")


class Drops(HandCase):
    def test_at_each_place(self):
        for place in range(4):
            for many in range(1, 5 - place):
                hand = hand_with("a", "abcd")
                wanted = [sign(1, "a", number) for number in range(place, place + many)]
                self.assertEqual(hand.drop(place, many), drop(2, "a", *wanted))
                self.assertEqual(hand.text(), "abcd"[:place] + "abcd"[place + many:])

    def test_the_ids_rise(self):
        hand = hand_with("a", "ab")
        hand.add(0, "cd")
        self.assertEqual(hand.drop(1, 2), drop(3, "a", sign(1, "a", 0), sign(2, "a", 1)))
        self.assertEqual(hand.text(), "cb")
        self.assertTrue(is_book(hand.known()))

    def test_signs_that_are_there(self):
        hand = hand_with("a", "abcd")
        hand.drop(1, 1)
        self.assertEqual(hand.drop(0, 2), drop(3, "a", sign(1, "a", 0), sign(1, "a", 2)))
        self.assertEqual(hand.text(), "d")

    def test_no_place(self):
        for place, many in [(-1, 1), (-1, 2), (0, 0), (3, 0), (4, 0), (0, 4), (1, 3), (3, 1), (4, 1), (1, -1), (2, -2),
                            (-1, 0), (4, -1), (-2, 1), (-3, 2), (-3, 1), (-3, 6), (-4, 3)]:
            self.assert_refused(hand_with("a", "abc"), NoPlace, "drop", place, many)
        # Counted from the end, these would be signs that are there.
        for place, many in [(-1, 1), (-1, 2)]:
            self.assert_refused(hand_with("a", "q"), NoPlace, "drop", place, many)
        for place, many in [(0, 0), (0, 1), (1, -1)]:
            self.assert_refused(Hand("a"), NoPlace, "drop", place, many)


class MarksOfHands(HandCase):
    def test_each_couple_of_sides(self):
        for sides in ("ll", "lr", "rl", "rr"):
            for place in range(4):
                for many in range(4 - place):
                    hand = hand_with("a", "abc")
                    told = hand.mark("x", place, many, sides)
                    with self.subTest(sides=sides, place=place, many=many):
                        self.assertEqual(told[:3], ("mark", (2, "a"), "x"))
                        self.assertEqual([anchor[1] for anchor in told[3:]], list(sides))
                        self.assertEqual(marks_of(hand.known()), [("x", place, place + many)])
                        self.assertTrue(is_book(hand.known()))

    def test_anchors(self):
        one, two = sign(1, "a", 0), sign(1, "a", 1)
        wanted = {"ll": ((one, "l"), (two, "l")), "lr": ((one, "l"), (None, "r")), "rl": ((two, "r"), (two, "l")),
                  "rr": ((two, "r"), (None, "r"))}
        for sides, anchors in wanted.items():
            self.assertEqual(hand_with("a", "ab").mark("x", 1, 1, sides), mark(2, "a", "x", *anchors))
        self.assertEqual(hand_with("a", "ab").mark("x", 0, 2, "ll"), mark(2, "a", "x", (None, "l"), (two, "l")))

    def test_of_no_sign(self):
        one, two = sign(1, "a", 0), sign(1, "a", 1)
        self.assertEqual(hand_with("a", "ab").mark("x", 1, 0, "lr"), mark(2, "a", "x", (one, "l"), (two, "r")))
        self.assertEqual(hand_with("a", "ab").mark("x", 1, 0, "rl"), mark(2, "a", "x", (two, "r"), (one, "l")))
        hand = Hand("a")
        self.assertEqual(hand.mark("x", 0, 0, "lr"), mark(1, "a", "x", (None, "l"), (None, "r")))
        hand.add(0, "abc")
        self.assertEqual(marks_of(hand.known()), [("x", 0, 3)])

    def test_no_place(self):
        for place, many in [(-1, 1), (-1, 0), (0, 4), (3, 1), (4, 0), (2, -1), (3, -3), (0, -1), (4, -1)]:
            for sides in ("ll", "lr", "rl", "rr"):
                self.assert_refused(hand_with("a", "abc"), NoPlace, "mark", "x", place, many, sides)
        self.assert_refused(Hand("a"), NoPlace, "mark", "x", 0, 1, "lr")

    def test_unmark(self):
        hand = hand_with("a", "abc")
        hand.mark("x", 0, 2, "rl")
        self.assertEqual(hand.unmark("x"), unmark(3, "a", "x"))
        self.assertEqual(marks_of(hand.known()), [])

    def test_no_name(self):
        hand = hand_with("a", "abc")
        self.assert_refused(hand, NoName, "unmark", "x")
        hand.mark("x", 0, 2, "rl")
        self.assert_refused(hand, NoName, "unmark", "y")
        hand.undo()
        self.assert_refused(hand, NoName, "unmark", "x")
        hand.redo()
        hand.unmark("x")
        self.assert_refused(hand, NoName, "unmark", "x")

    def test_a_mark_of_another_hand(self):
        one, other = hand_with("a", "abc"), Hand("b")
        one.mark("x", 0, 2, "rl")
        other.take(list(one.known()))
        self.assertEqual(other.unmark("x"), unmark(3, "b", "x"))


class Times(HandCase):
    def test_over_own_deeds(self):
        hand = Hand("c")
        ids = [hand.add(0, "ab")[1], hand.drop(0, 1)[1], hand.mark("x", 0, 1, "lr")[1], hand.unmark("x")[1],
               hand.undo()[1], hand.redo()[1]] + [deed[1] for deed in hand.become("c")]
        self.assertEqual(ids, [(time, "c") for time in range(1, 9)])

    def test_over_deeds_of_others(self):
        hand = hand_with("b", "ab")
        hand.take([unmark(7, "a", "x"), unmark(5, "h", "x")])
        self.assertEqual(hand.add(0, "c")[1], (8, "b"))
        hand.take([unmark(8, "a", "x"), unmark(8, "c", "x"), unmark(3, "b", "x")])
        self.assertEqual(hand.undo()[1], (9, "b"))

    def test_deeds_that_wait_do_not_count(self):
        hand = hand_with("b", "ab")
        self.assertEqual(hand.take([undo(9, "a", (8, "a"))]), 1)
        self.assertEqual(hand.add(0, "c")[1], (2, "b"))


class UndoAndRedo(HandCase):
    def test_in_a_row(self):
        hand = hand_with("a", "ab", "cd", "ef")
        self.assertEqual([hand.undo() for _ in range(3)],
                         [undo(4, "a", (3, "a")), undo(5, "a", (2, "a")), undo(6, "a", (1, "a"))])
        self.assertEqual(hand.text(), "")
        self.assert_refused(hand, NoneLeft, "undo")
        self.assertEqual([hand.redo() for _ in range(3)],
                         [undo(7, "a", (6, "a")), undo(8, "a", (5, "a")), undo(9, "a", (4, "a"))])
        self.assertEqual(hand.text(), "abcdef")
        self.assert_refused(hand, NoneLeft, "redo")

    def test_none_left_at_the_beginning(self):
        self.assert_refused(Hand("a"), NoneLeft, "undo")
        self.assert_refused(Hand("a"), NoneLeft, "redo")
        self.assert_refused(hand_with("a", "ab"), NoneLeft, "redo")

    def test_undo_behind_redo(self):
        hand = hand_with("a", "ab", "cd")
        hand.undo(), hand.undo(), hand.redo()
        self.assertEqual(hand.text(), "ab")
        self.assertEqual(hand.undo(), undo(6, "a", (1, "a")))
        self.assertEqual(hand.redo(), undo(7, "a", (6, "a")))
        self.assertEqual(hand.redo(), undo(8, "a", (3, "a")))
        self.assertEqual(hand.text(), "abcd")
        self.assert_refused(hand, NoneLeft, "redo")

    def test_redo_behind_another_deed(self):
        for name, arguments in [("add", (0, "x")), ("drop", (0, 1)), ("mark", ("x", 0, 1, "lr")), ("unmark", ("m",)),
                                ("become", ("x",))]:
            hand = hand_with("a", "ab")
            hand.mark("m", 0, 1, "lr")
            hand.add(2, "cd")
            hand.undo()
            getattr(hand, name)(*arguments)
            self.assert_refused(hand, NoneLeft, "redo")

    def test_redo_counts_from_the_last_deed(self):
        hand = hand_with("a", "ab", "cd")
        hand.undo()
        hand.add(0, "x")
        hand.undo()
        self.assertEqual(hand.redo(), undo(6, "a", (5, "a")))
        self.assertEqual(hand.text(), "xab")
        self.assert_refused(hand, NoneLeft, "redo")

    def test_redo_behind_what_is_no_deed_above(self):
        hand = hand_with("a", "ab", "cd")
        hand.undo()
        hand.take([unmark(9, "b", "x")])
        self.assertEqual(hand.become("ab"), [])
        self.assert_refused(hand, NoPlace, "add", 9, "x")
        self.assertEqual(hand.redo(), undo(10, "a", (3, "a")))

    def test_each_word(self):
        hand = hand_with("a", "abc")
        hand.mark("x", 0, 2, "rl")
        shown = [(hand.text(), marks_of(hand.known()))]
        for name, arguments in [("add", (0, "new")), ("drop", (1, 3)), ("mark", ("x", 1, 1, "lr")), ("unmark", ("x",))]:
            getattr(hand, name)(*arguments)
            shown.append((hand.text(), marks_of(hand.known())))
        for wanted in shown[-2::-1]:
            hand.undo()
            self.assertEqual((hand.text(), marks_of(hand.known())), wanted)
        for wanted in shown[1:]:
            hand.redo()
            self.assertEqual((hand.text(), marks_of(hand.known())), wanted)

    def test_by_become(self):
        hand = hand_with("a", "abc")
        hand.become("axc")
        self.assertEqual([hand.undo()[2], hand.text()], [(3, "a"), "ac"])
        self.assertEqual([hand.undo()[2], hand.text()], [(2, "a"), "abc"])
        hand.redo(), hand.redo()
        self.assertEqual(hand.text(), "axc")

    def test_what_another_hand_undid(self):
        hand = hand_with("a", "ab", "cd")
        hand.take([undo(3, "b", (2, "a"))])
        self.assertEqual(hand.undo(), undo(4, "a", (1, "a")))
        self.assert_refused(hand, NoneLeft, "undo")

    def test_what_another_hand_did_again(self):
        hand = hand_with("a", "ab")
        hand.undo()
        hand.take([undo(3, "b", (2, "a"))])
        self.assertEqual(hand.text(), "ab")
        self.assert_refused(hand, NoneLeft, "redo")
        self.assertEqual(hand.undo(), undo(4, "a", (1, "a")))
        self.assertEqual(hand.redo(), undo(5, "a", (4, "a")))

    def test_redo_passes_over_what_another_hand_did_again(self):
        hand = hand_with("a", "ab", "cd")
        first, second = hand.undo(), hand.undo()
        hand.take([undo(5, "b", second[1])])
        self.assertEqual(hand.redo()[2], first[1])

    def test_deeds_of_others_are_not_undone(self):
        hand = Hand("a")
        hand.take([add(1, "b", None, "ab"), add(2, "a", None, "cd")])
        self.assert_refused(hand, NoneLeft, "undo")

    def test_a_deed_undone_as_if_never_done(self):
        """[0.2] (d)"""
        source = random.Random(21)
        for _ in range(60):
            hand = Hand("a")
            for _ in range(source.randint(1, 12)):
                act(source, hand)
            before = (hand.text(), marks_of(hand.known()))
            if not act(source, hand):
                continue
            after = (hand.text(), marks_of(hand.known()))
            with self.subTest(book=hand.known()):
                hand.undo()
                self.assertEqual((hand.text(), marks_of(hand.known())), before)
                hand.redo()
                self.assertEqual((hand.text(), marks_of(hand.known())), after)


def act(source, hand):
    """One of the deeds at places, or nothing where there is no place for it: told is whether it was done."""
    length = len(hand.text())
    word = source.choice(["add", "add", "drop", "mark", "mark", "unmark"])
    place = source.randint(0, length)
    try:
        if word == "add":
            hand.add(place, source.choice(["x", "ab", "new"]))
        elif word == "drop":
            hand.drop(place, source.randint(1, 3))
        elif word == "mark":
            sides = source.choice(["ll", "lr", "rl", "rr"])
            hand.mark(source.choice("xyz"), place, source.randint(0, length - place), sides)
        else:
            hand.unmark(source.choice("xyz"))
    except (NoPlace, NoName):
        return False
    return True


class Take(HandCase):
    ONE = add(1, "a", None, "abc")
    TWO = add(2, "b", sign(1, "a", 0), "x")
    THREE = drop(3, "c", sign(2, "b", 0))
    FOUR = undo(4, "a", (3, "c"))

    def test_in_any_order(self):
        """[0.2] (b)"""
        deeds = [self.ONE, self.TWO, self.THREE, self.FOUR]
        for order in itertools.permutations(deeds):
            hand = Hand("h")
            counts = []
            for number, deed in enumerate(order):
                counts.append(hand.take([deed]))
                self.assertEqual(len(hand.known()) + counts[-1], number + 1)
            self.assertEqual((hand.known(), counts[-1]), (tuple(deeds), 0))
            self.assertEqual(Hand("h").take(list(order)), 0)

    def test_how_many_wait(self):
        hand = Hand("h")
        self.assertEqual(hand.take([self.FOUR, self.THREE]), 2)
        self.assertEqual(hand.take([self.THREE, self.THREE]), 2)
        self.assertEqual(hand.known(), ())
        self.assertEqual(hand.take([self.ONE]), 2)
        self.assertEqual(hand.known(), (self.ONE,))
        self.assertEqual(hand.take([]), 2)
        self.assertEqual(hand.take([self.TWO]), 0)
        self.assertEqual(hand.known(), (self.ONE, self.TWO, self.THREE, self.FOUR))

    def test_what_it_has_already(self):
        hand = Hand("a")
        deed = hand.add(0, "abc")
        self.assertEqual((hand.take([deed, deed]), hand.known()), (0, (deed,)))

    def test_unlike_deed(self):
        hand = Hand("h")
        hand.take([self.ONE, self.THREE])
        unlike = add(1, "a", None, "abd")
        for deeds in [[unlike], [self.TWO, unlike], [unlike, self.TWO], [self.ONE, unlike]]:
            self.assert_refused(hand, BadBook, "take", deeds)
        self.assertEqual(hand.take([]), 1)
        self.assertEqual(hand.take([self.TWO]), 0)
        self.assertEqual(hand.known(), (self.ONE, self.TWO, self.THREE))

    def test_a_deed_that_waits_for_an_own_one_comes_with_the_next_take(self):
        hand = Hand("a")
        waiting = undo(9, "b", (1, "a"))
        self.assertEqual(hand.take([waiting]), 1)
        own = hand.add(0, "abc")
        self.assertEqual(hand.known(), (own,))
        self.assertEqual((hand.take([]), hand.known()), (0, (own, waiting)))

    def test_random_books(self):
        """[0.2] (b)"""
        source = random.Random(22)
        for book in random_books(60):
            hand, deeds = Hand("h"), source.sample(book, len(book))
            with self.subTest(deeds=deeds):
                while deeds:
                    many = source.randint(1, len(deeds))
                    hand.take(deeds[:many])
                    self.assertTrue(is_book(hand.known()))
                    deeds = deeds[many:]
                self.assertEqual((hand.known(), hand.text()), (book, text_of(book)))


class Become(HandCase):
    def assert_becomes(self, old, new, dropped, added):
        """dropped: the numbers of the signs that are dropped; added: the number ahead, and the text."""
        hand = hand_with("a", old) if old else Hand("a")
        time, wanted = len(hand.known()), []
        if dropped:
            time = time + 1
            wanted.append(drop(time, "a", *[sign(1, "a", number) for number in dropped]))
        if added:
            behind = None if added[0] is None else sign(1, "a", added[0])
            wanted.append(add(time + 1, "a", behind, added[1]))
        with self.subTest(old=old, new=new):
            self.assertEqual(hand.become(new), wanted)
            self.assertEqual(hand.text(), new)
            self.assertTrue(is_book(hand.known()))
            self.assertEqual(hand.known()[len(hand.known()) - len(wanted):], tuple(wanted))

    def test_all_alike(self):
        self.assert_becomes("abc", "abc", [], None)
        self.assert_becomes("", "", [], None)

    def test_alike_at_the_beginning(self):
        self.assert_becomes("abcd", "abxy", [2, 3], (1, "xy"))
        self.assert_becomes("abcd", "ab", [2, 3], None)
        self.assert_becomes("ab", "abcd", [], (1, "cd"))

    def test_alike_at_the_end(self):
        self.assert_becomes("abcd", "xycd", [0, 1], (None, "xy"))
        self.assert_becomes("abcd", "cd", [0, 1], None)
        self.assert_becomes("cd", "abcd", [], (None, "ab"))

    def test_alike_at_both(self):
        self.assert_becomes("abcde", "abXYe", [2, 3], (1, "XY"))
        self.assert_becomes("abcde", "abde", [2], None)
        self.assert_becomes("abde", "abcde", [], (1, "c"))

    def test_wholly_unlike(self):
        self.assert_becomes("abc", "xyz", [0, 1, 2], (None, "xyz"))
        self.assert_becomes("abc", "cab", [0, 1, 2], (None, "cab"))

    def test_empty(self):
        self.assert_becomes("abc", "", [0, 1, 2], None)
        self.assert_becomes("", "abc", [], (None, "abc"))

    def test_repeated_signs(self):
        self.assert_becomes("aaa", "aaaa", [], (2, "a"))
        self.assert_becomes("aaaa", "aaa", [3], None)
        self.assert_becomes("aba", "ababa", [], (2, "ba"))
        self.assert_becomes("ababa", "aba", [3, 4], None)
        self.assert_becomes("aabaa", "aaa", [2, 3], None)

    def test_lengths(self):
        self.assert_becomes("ab", "a" + "x" * 20 + "b", [], (0, "x" * 20))

    def test_many_dropped_by_one_deed(self):
        hand = hand_with("a", *["abcdefghij" * 2] * 20)
        told = hand.become("z")
        self.assertEqual([len(told), len(told[0][2]), hand.text()], [2, 400, "z"])
        self.assertTrue(is_book(hand.known()))

    def test_beyond_the_bound_is_not_refused(self):
        hand = hand_with("a", "ab")
        self.assertEqual(hand.become("a" + "x" * 23 + "b"), [add(2, "a", sign(1, "a", 0), "x" * 23)])
        self.assertEqual(hand.text(), "a" + "x" * 23 + "b")

    def test_random_texts(self):
        """[0.2] (e)"""
        source = random.Random(23)
        hand = Hand("c")
        for _ in range(150):
            old = hand.text()
            new = "".join(source.choice("ab") for _ in range(source.randint(0, 8)))
            told = hand.become(new)
            head = max(k for k in range(min(len(old), len(new)) + 1) if old[:k] == new[:k])
            most = min(len(old), len(new)) - head
            tail = max(k for k in range(most + 1) if old[len(old) - k:] == new[len(new) - k:])
            with self.subTest(old=old, new=new):
                self.assertEqual(hand.text(), new)
                sizes = {deed[0]: len(deed[-1]) for deed in told}
                self.assertEqual(sizes.get("drop", 0), len(old) - head - tail)
                self.assertEqual(sizes.get("add", 0), len(new) - head - tail)
        self.assertTrue(is_book(hand.known()))


class WhatIsToldThen(HandCase):
    """[0.2] (e): what a hand does at places of the text is just what is told then."""

    def test_among_deeds_of_others(self):
        source = random.Random(24)
        for book in random_books(80):
            hand = Hand("h")
            hand.take(list(book))
            text = hand.text()
            place = source.randint(0, len(text))
            many = source.randint(0, len(text) - place)
            sides = source.choice(["ll", "lr", "rl", "rr"])
            with self.subTest(book=book, place=place, many=many, sides=sides):
                told = hand.mark("new", place, many, sides)
                self.assertIn(("new", place, place + many), marks_of(hand.known()))
                self.assertEqual([place_of(hand.known(), anchor) for anchor in told[3:]], [place, place + many])
                if many:
                    hand.drop(place, many)
                    self.assertEqual(hand.text(), text[:place] + text[place + many:])
                    hand.undo()
                hand.add(place, "12")
                self.assertEqual(hand.text(), text[:place] + "12" + text[place:])
                hand.become(text)
                self.assertEqual(hand.text(), text)
                self.assertTrue(is_book(hand.known()))


class Met(HandCase):
    def test_both_have_both_books(self):
        one, other = hand_with("a", "ab"), hand_with("b", "cd")
        wanted = joined(one.known(), other.known())
        self.assertEqual(met(one, other), wanted)
        self.assertEqual((one.known(), other.known()), (wanted, wanted))
        self.assertEqual(one.text(), "cdab")

    def test_with_none(self):
        one, other = hand_with("a", "ab"), Hand("b")
        wanted = one.known()
        self.assertEqual((met(other, one), one.known(), other.known()), (wanted, wanted, wanted))
        self.assertEqual(met(Hand("a"), Hand("b")), ())

    def test_twice(self):
        one, other = hand_with("a", "ab"), hand_with("b", "cd")
        first = met(one, other)
        self.assertEqual((met(one, other), met(other, one)), (first, first))
        one.add(2, "x")
        other.drop(0, 1)
        second = met(other, one)
        self.assertEqual(second, joined(one.known(), other.known()))
        self.assertEqual(second, first + (add(2, "a", sign(1, "b", 1), "x"), drop(2, "b", sign(1, "b", 0))))
        self.assertEqual(one.text(), "dxab")

    def test_what_waits_is_left_aside(self):
        one, other = hand_with("a", "ab"), hand_with("b", "cd")
        self.assertEqual(one.take([undo(9, "c", (8, "c"))]), 1)
        wanted = joined(one.known(), other.known())
        self.assertEqual(met(one, other), wanted)
        self.assertEqual((one.known(), other.known()), (wanted, wanted))
        self.assertEqual((one.take([]), other.take([])), (1, 0))

    def test_what_waited_comes_to_both(self):
        for turned in (False, True):
            one, other = hand_with("a", "ab"), Hand("b")
            waiting = undo(2, "c", (1, "a"))
            other.take([waiting])
            told = met(other, one) if turned else met(one, other)
            wanted = (add(1, "a", None, "ab"), waiting)
            self.assertEqual((told, one.known(), other.known()), (wanted, wanted, wanted))
            self.assertEqual((one.take([]), other.take([])), (0, 0))

    def test_what_waited_with_one_for_what_waited_with_the_other(self):
        one, other = hand_with("a", "ab"), Hand("b")
        deeds = [undo(time + 1, "c", (time, "c" if time > 1 else "a")) for time in range(1, 5)]
        one.take(deeds[1::2])
        other.take(deeds[::2])
        wanted = one.known() + tuple(deeds)
        self.assertEqual((met(one, other), one.known(), other.known()), (wanted, wanted, wanted))
        self.assertEqual((one.take([]), other.take([])), (0, 0))

    def test_what_waits_for_an_own_deed_comes(self):
        one, other = Hand("a"), Hand("b")
        waiting = undo(2, "c", (1, "a"))
        one.take([waiting])
        other.take([one.add(0, "x")])
        self.assertEqual(one.known(), other.known())
        self.assertEqual(met(one, other), (add(1, "a", None, "x"), waiting))
        self.assertEqual(other.known(), one.known())

    def test_unlike_deeds_change_nothing(self):
        one, other = hand_with("a", "ab"), hand_with("b", "cd")
        other.take([add(1, "a", None, "ax")])
        before = (one.known(), other.known())
        for couple in [(one, other), (other, one)]:
            with self.assertRaises(BadBook):
                met(*couple)
            self.assertEqual((one.known(), other.known()), before)

    def test_an_unlike_deed_that_waits_changes_nothing(self):
        one, other = hand_with("a", "ab", "cd"), hand_with("b", "ef")
        other.take([undo(2, "a", (1, "c"))])
        before = (one.known(), other.known())
        for couple in [(one, other), (other, one)]:
            with self.assertRaises(BadBook):
                met(*couple)
            self.assertEqual((one.known(), other.known()), before)
        self.assertEqual(other.take([]), 1)

    def test_hands_that_write_and_meet(self):
        """[0.2] (b)"""
        source = random.Random(25)
        for _ in range(15):
            hands = [Hand(letter) for letter in "abc"]
            for _ in range(25):
                act(source, source.choice(hands))
                if source.random() < 0.2:
                    one, other = source.sample(hands, 2)
                    met(one, other)
            for one, other in [(0, 1), (1, 2), (0, 2)]:
                book = met(hands[one], hands[other])
            with self.subTest(book=book):
                self.assertTrue(is_book(book))
                self.assertEqual([hand.known() for hand in hands[::2]], [book, book])
                met(hands[0], hands[1])
                self.assertEqual(hands[1].known(), book)
                self.assertEqual([hand.text() for hand in hands], [text_of(book)] * 3)


if __name__ == "__main__":
    unittest.main()
