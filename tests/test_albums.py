"""[0.2] (j), [12.1], [12.2]: albums of books by names, which go back and forth step by step."""

import inspect
import random
import unittest

from helper import (add, album_of, books_in, drop, kinds_of, random_books, random_part, sign, undo, unmark)
from staymark.albums import Album
from staymark.errors import BadBook, MarkError, NoName, NoneLeft
from staymark.joining import joined
from staymark.orders import text_of

ONE = (add(1, "a", None, "abc"),)
TWO = ONE + (add(2, "b", sign(1, "a", 0), "x"),)
THREE = ONE + (drop(2, "c", sign(1, "a", 2)),)
BOTH = ONE + (TWO[1], THREE[1])
OTHER = (add(3, "h", None, "other"),)
UNLIKE = (add(1, "a", None, "abd"),)
METHODS = {"keep": 2, "fetch": 1, "forget": 1, "join_in": 2, "names": 0, "back": 0, "forth": 0, "counts": 0, "twin": 0}


def state_of(album):
    """All that an album can tell, found out by a twin, so that the album stays as it is."""
    other = album.twin()
    told = [books_in(other), other.counts()]
    for many, call in zip(other.counts(), (other.back, other.forth)):
        told += [(call(), books_in(other)) for _ in range(many)]
        if call == other.back:
            [other.forth() for _ in range(many)]
    return told


class Interface(unittest.TestCase):
    def test_arguments(self):
        self.assertEqual(len(inspect.signature(Album).parameters), 0)
        for name, many in METHODS.items():
            self.assertEqual(len(inspect.signature(getattr(Album(), name)).parameters), many, name)

    def test_kinds(self):
        album = Album()
        told = [album.names(), album.counts(), album.keep("x", ONE), album.join_in("x", TWO), album.join_in("x", ONE),
                album.fetch("x"), album.names(), album.forget("x"), album.back(), album.back(), album.forth(),
                album.counts()]
        wanted = [[], (0, 0), "abc", True, False, TWO, ["x"], TWO, "forget", "join", "join", (3, 1)]
        self.assertEqual(kinds_of(told), kinds_of(wanted))
        self.assertIsInstance(album.twin(), Album)


class Kept(unittest.TestCase):
    """[12.1]"""

    def refuse(self, error, album, name, *arguments):
        before = state_of(album)
        with self.assertRaises(error):
            getattr(album, name)(*arguments)
        self.assertEqual(state_of(album), before)

    def test_no_books(self):
        album = Album()
        self.assertEqual((album.names(), album.counts()), ([], (0, 0)))
        self.refuse(NoName, album, "fetch", "x")

    def test_keep_a_new_name(self):
        album = Album()
        self.assertEqual(album.keep("x", TWO), "axbc")
        self.assertEqual((album.fetch("x"), album.names()), (TWO, ["x"]))

    def test_keep_over_an_old_one(self):
        album = album_of(x=ONE, y=TWO)
        self.assertEqual(album.keep("x", OTHER), "other")
        self.assertEqual(books_in(album), {"x": OTHER, "y": TWO})

    def test_keep_a_book_without_deeds(self):
        album = Album()
        self.assertEqual((album.keep("x", ()), album.fetch("x"), album.names()), ("", (), ["x"]))
        self.assertEqual(album.forget("x"), ())
        self.refuse(NoName, album, "fetch", "x")

    def test_keep_one_book_by_several_names(self):
        album = album_of(x=ONE, y=ONE)
        album.join_in("x", TWO)
        self.assertEqual(books_in(album), {"x": TWO, "y": ONE})

    def test_keep_what_stands_there_already(self):
        album = album_of(x=ONE)
        self.assertEqual((album.keep("x", ONE), album.counts()), ("abc", (2, 0)))

    def test_keep_an_unlike_book_joins_nothing(self):
        album = album_of(x=ONE)
        self.assertEqual((album.keep("x", UNLIKE), album.fetch("x")), ("abd", UNLIKE))

    def test_fetch(self):
        album = album_of(x=ONE, xy=TWO)
        self.assertEqual((album.fetch("xy"), album.fetch("x"), album.fetch("x")), (TWO, ONE, ONE))
        self.assertEqual(album.counts(), (2, 0))
        for name in ("y", "xyz", "abcdef"):
            self.refuse(NoName, album, "fetch", name)

    def test_forget(self):
        album = album_of(x=ONE, y=TWO)
        self.assertEqual((album.forget("x"), books_in(album)), (ONE, {"y": TWO}))
        for name in ("x", "z"):
            self.refuse(NoName, album, "fetch", name)
            self.refuse(NoName, album, "forget", name)
        self.assertEqual(album.keep("x", OTHER), "other")

    def test_join_in_that_changes_the_book(self):
        album = album_of(x=TWO, y=OTHER)
        self.assertIs(album.join_in("x", THREE), True)
        self.assertEqual(books_in(album), {"x": BOTH, "y": OTHER})

    def test_join_in_that_does_not(self):
        album = album_of(x=BOTH)
        for book in (BOTH, TWO, ONE, ()):
            self.assertIs(album.join_in("x", book), False)
        self.assertEqual((album.fetch("x"), album.counts()), (BOTH, (5, 0)))

    def test_join_in_changes_the_book_but_not_its_text(self):
        album = album_of(x=ONE)
        self.assertIs(album.join_in("x", ONE + (unmark(2, "a", "x"),)), True)
        self.assertEqual(text_of(album.fetch("x")), "abc")

    def test_join_in_of_a_name_without_a_book(self):
        album = album_of(x=ONE)
        self.refuse(NoName, album, "join_in", "y", TWO)
        self.refuse(NoName, album, "join_in", "y", UNLIKE)
        album.forget("x")
        self.refuse(NoName, album, "join_in", "x", UNLIKE)
        self.refuse(NoName, album, "join_in", "x", ONE)

    def test_join_in_of_an_unlike_deed(self):
        album = album_of(x=TWO, y=OTHER)
        self.refuse(BadBook, album, "join_in", "x", UNLIKE)
        self.refuse(BadBook, album, "join_in", "x", ONE + (unmark(2, "b", "x"),))
        self.assertIs(album.join_in("y", UNLIKE), True)

    def test_names_rise(self):
        album = album_of(yy=ONE, b=ONE, zz=ONE, y=ONE, a=ONE, abcdef=ONE)
        self.assertEqual(album.names(), ["a", "abcdef", "b", "y", "yy", "zz"])
        album.forget("b")
        album.keep("c", ())
        album.keep("y", ())
        self.assertEqual(album.names(), ["a", "abcdef", "c", "y", "yy", "zz"])

    def test_albums_are_apart(self):
        one, other = album_of(x=ONE), Album()
        self.assertEqual((other.names(), other.counts()), ([], (0, 0)))
        other.keep("y", TWO)
        self.assertEqual(books_in(one), {"x": ONE})


class BackAndForth(unittest.TestCase):
    """[12.2]"""

    def test_none_left(self):
        album = Album()
        for call in (album.back, album.forth):
            with self.assertRaises(NoneLeft):
                call()
        album.keep("x", ONE)
        with self.assertRaises(NoneLeft):
            album.forth()
        album.back()
        with self.assertRaises(NoneLeft):
            album.back()
        self.assertEqual((album.counts(), album.names()), ((0, 1), []))
        album.forth()
        with self.assertRaises(NoneLeft):
            album.forth()
        self.assertEqual((album.counts(), books_in(album)), ((1, 0), {"x": ONE}))

    def go(self, album, word, before):
        """The last step back, and forth again."""
        after, counts = books_in(album), album.counts()
        self.assertEqual(album.back(), word)
        self.assertEqual((books_in(album), album.counts()), (before, (counts[0] - 1, 1)))
        self.assertEqual(album.forth(), word)
        self.assertEqual((books_in(album), album.counts()), (after, counts))

    def test_keep(self):
        album = album_of(x=ONE)
        self.go(album, "keep", {})
        album.keep("y", TWO)
        self.go(album, "keep", {"x": ONE})
        album.keep("x", OTHER)
        self.go(album, "keep", {"x": ONE, "y": TWO})

    def test_keep_of_a_book_without_deeds(self):
        album = album_of(x=())
        self.go(album, "keep", {})
        album.keep("x", ONE)
        self.go(album, "keep", {"x": ()})
        album.keep("x", ())
        self.go(album, "keep", {"x": ONE})

    def test_forget(self):
        album = album_of(x=ONE, y=())
        album.forget("x")
        self.go(album, "forget", {"x": ONE, "y": ()})
        album.forget("y")
        self.go(album, "forget", {"y": ()})

    def test_join(self):
        album = album_of(x=TWO)
        album.join_in("x", THREE)
        self.go(album, "join", {"x": TWO})

    def test_steps_that_changed_nothing(self):
        album = album_of(x=BOTH)
        album.join_in("x", ONE)
        self.go(album, "join", {"x": BOTH})
        album.keep("x", BOTH)
        self.go(album, "keep", {"x": BOTH})
        self.assertEqual([album.back(), album.back(), album.back()], ["keep", "join", "keep"])
        self.assertEqual((album.names(), album.counts()), ([], (0, 3)))

    def test_several_back_and_some_forth(self):
        album = album_of(x=TWO)
        album.join_in("x", THREE), album.keep("y", OTHER), album.forget("x"), album.keep("x", ())
        self.assertEqual([album.back() for _ in range(4)], ["keep", "forget", "keep", "join"])
        self.assertEqual((books_in(album), album.counts()), ({"x": TWO}, (1, 4)))
        self.assertEqual([album.forth() for _ in range(3)], ["join", "keep", "forget"])
        self.assertEqual((books_in(album), album.counts()), ({"y": OTHER}, (4, 1)))
        self.assertEqual([album.back(), album.forth(), album.forth()], ["forget", "forget", "keep"])
        self.assertEqual((books_in(album), album.counts()), ({"x": (), "y": OTHER}, (5, 0)))

    def test_a_step_behind_back_leaves_nothing_to_do_again(self):
        for name, arguments in (("keep", ("z", ONE)), ("keep", ("x", ONE)), ("forget", ("x",)), ("join_in", ("x", TWO)),
                                ("join_in", ("x", ONE))):
            album = album_of(x=ONE, y=TWO, z=OTHER)
            album.back(), album.back()
            self.assertEqual(album.counts(), (1, 2))
            getattr(album, name)(*arguments)
            with self.subTest(name=name, arguments=arguments):
                self.assertEqual(album.counts(), (2, 0))
                with self.assertRaises(NoneLeft):
                    album.forth()
                self.assertEqual(album.back(), name.partition("_")[0])
                self.assertEqual((books_in(album), album.counts()), ({"x": ONE}, (1, 1)))

    def test_a_refused_step_is_none(self):
        album = album_of(x=ONE, y=TWO)
        album.back()
        for name, arguments in (("fetch", ("y",)), ("forget", ("y",)), ("join_in", ("y", ONE)),
                                ("join_in", ("x", UNLIKE))):
            with self.subTest(name=name), self.assertRaises(MarkError):
                getattr(album, name)(*arguments)
            self.assertEqual((books_in(album), album.counts()), ({"x": ONE}, (1, 1)))
        self.assertEqual((album.forth(), books_in(album)), ("keep", {"x": ONE, "y": TWO}))

    def test_telling_is_no_step(self):
        album = album_of(x=ONE, y=TWO)
        album.back()
        album.fetch("x"), album.names(), album.counts(), album.twin()
        self.assertEqual((album.counts(), album.forth()), ((1, 1), "keep"))

    def test_random_steps(self):
        """[0.2] (j): against a row of all states, and which one of them it is."""
        source = random.Random(71)
        whole = max(random_books(30), key=len)
        books = [random_part(source, whole) for _ in range(8)] + [UNLIKE]
        found = []
        for _ in range(60):
            album, states, at = Album(), [(None, {})], 0
            for _ in range(40):
                now = dict(states[at][1])
                word = source.choice(["keep", "keep", "join", "join", "forget", "back", "back", "forth"])
                name, book = source.choice(["x", "y", "z"]), source.choice(books)
                if word == "back" and at > 0:
                    self.assertEqual(album.back(), states[at][0])
                    at -= 1
                elif word == "forth" and at + 1 < len(states):
                    at += 1
                    self.assertEqual(album.forth(), states[at][0])
                elif word in ("back", "forth"):
                    with self.assertRaises(NoneLeft):
                        getattr(album, word)()
                elif word != "keep" and name not in now:
                    with self.assertRaises(NoName):
                        album.forget(name) if word == "forget" else album.join_in(name, book)
                else:
                    if word == "keep":
                        now[name] = book
                        self.assertEqual(album.keep(name, book), text_of(book))
                    elif word == "forget":
                        self.assertEqual(album.forget(name), now.pop(name))
                    else:
                        try:
                            new = joined(now[name], book)
                        except BadBook:
                            with self.assertRaises(BadBook):
                                album.join_in(name, book)
                            continue
                        found.append(new != now[name])
                        self.assertEqual(album.join_in(name, book), new != now[name])
                        now[name] = new
                    states, at = states[:at + 1] + [(word, now)], at + 1
                self.assertEqual(books_in(album), states[at][1])
                self.assertEqual(album.counts(), (at, len(states) - 1 - at))
        self.assertGreater(found.count(True), 50)
        self.assertGreater(found.count(False), 50)


class Twin(unittest.TestCase):
    def test_of_an_album_without_books(self):
        self.assertEqual(state_of(Album().twin()), [{}, (0, 0)])

    def test_takes_back_and_does_again_what_the_album_can(self):
        album = album_of(x=ONE, y=TWO, z=())
        album.join_in("x", TWO), album.forget("y")
        album.back(), album.back()
        other = album.twin()
        self.assertEqual((books_in(other), other.counts()), (books_in(album), (3, 2)))
        self.assertEqual([other.forth(), other.forth()], ["join", "forget"])
        self.assertEqual(books_in(other), {"x": TWO, "z": ()})
        self.assertEqual([other.back() for _ in range(5)], ["forget", "join", "keep", "keep", "keep"])
        self.assertEqual((books_in(album), album.counts()), ({"x": ONE, "y": TWO, "z": ()}, (3, 2)))

    def test_from_then_on_each_goes_by_itself(self):
        for name, arguments in (("keep", ("x", TWO)), ("keep", ("q", TWO)), ("forget", ("x",)), ("join_in", ("x", TWO)),
                                ("back", ()), ("forth", ())):
            for swapped in (False, True):
                album = album_of(x=ONE, y=OTHER, z=ONE)
                album.back()
                pair = [album, album.twin()]
                if swapped:
                    pair.reverse()
                before = state_of(pair[1])
                getattr(pair[0], name)(*arguments)
                with self.subTest(name=name, swapped=swapped):
                    self.assertEqual(state_of(pair[1]), before)
                    self.assertNotEqual(state_of(pair[0]), before)

    def test_of_a_twin(self):
        album = album_of(x=ONE, y=TWO)
        album.back()
        third = album.twin().twin()
        album.keep("z", OTHER)
        self.assertEqual((books_in(third), third.counts()), ({"x": ONE}, (1, 1)))
        self.assertEqual((third.forth(), books_in(third)), ("keep", {"x": ONE, "y": TWO}))
        self.assertEqual([third.back(), third.back(), third.names()], ["keep", "keep", []])
        self.assertEqual(books_in(album), {"x": ONE, "z": OTHER})

    def test_is_no_step(self):
        album = album_of(x=ONE)
        album.twin()
        self.assertEqual(album.counts(), (1, 0))


class ToldAndHandedIn(unittest.TestCase):
    """[0.3]"""

    def test_told_names_are_new_ones(self):
        album = album_of(x=ONE, y=TWO)
        album.names().clear()
        album.names().append("q")
        self.assertEqual(album.names(), ["x", "y"])
        Album().names().append("q")
        self.assertEqual(Album().names(), [])

    def test_books_are_not_changed(self):
        books = (ONE, TWO, THREE, OTHER)
        before = repr(books)
        album = album_of(x=ONE, y=TWO)
        album.join_in("x", TWO), album.join_in("y", THREE), album.keep("x", OTHER)
        album.back(), album.back(), album.back()
        self.assertEqual(repr(books), before)

    def test_a_told_book_stays_as_it_was(self):
        album = album_of(x=ONE)
        told = album.fetch("x")
        album.join_in("x", TWO), album.keep("x", ONE + (undo(2, "a", (1, "a")),)), album.forget("x")
        self.assertEqual(told, ONE)


if __name__ == "__main__":
    unittest.main()
