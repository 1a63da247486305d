"""[0.2] (g), [13.1]: albums written as texts, and read from them."""

import inspect
import random
import unittest

from helper import (add, album_of, books_in, drop, mark, random_books, random_marked_books, sign, undo, unmark)
from staymark.albums import Album
from staymark.albumtexts import album_text, read_album
from staymark.errors import NoneLeft, NoText
from staymark.reading import read
from staymark.writing import written

ONE = (add(1, "a", None, "to be"), drop(2, "b", sign(1, "a", 0), sign(1, "a", 1)), undo(3, "a", (2, "b")))
TWO = (add(1, "h", None, "= x"), mark(2, "h", "x", (None, "l"), (sign(1, "h", 2), "r")), unmark(12, "g", "x"))
ONE_TEXT = "a1 add - to be\nb2 drop a1.0 a1.1\na3 undo b2\n"
TWO_TEXT = "h1 add - = x\nh2 mark x -< h1.2>\ng12 unmark x\n"
TEXT = "= abc\n" + ONE_TEXT + "= b\n= x\n" + TWO_TEXT

# Each is refused by read: as a text by itself, and within an album.
SPOILT = [
    "\n", "a1 unmark x\n\n", "\na1 unmark x\n", "a1  unmark x\n", "a1 unmark  x\n", "a1 unmarkx\n", "a1 unmark x \n",
    " a1 unmark x\n", "a01 unmark x\n", "a+1 unmark x\n", "a1000000 unmark x\n", "a0 unmark x\n", "i1 unmark x\n",
    "a1 remark x\n", "a1 unmark X\n", "a1 unmark abcdefg\n", "a1 unmark\n", "a1 unmark x y\n", "a1 add - \n",
    "a1 add - " + "x" * 21 + "\n", "a1 mark x -l ->\n", "a1 mark x -<\n", "a1 add - abc\na2 drop a1.1 a1.0\n",
    "a1 add - abc\na2 drop a1.0 a1.0\n", "a1 add - abc\na2 drop a1.3\n", "a2 unmark x\na1 unmark x\n",
    "a1 unmark x\na1 unmark x\n", "a2 undo a1\n", "a1 undo a1\n", "a1 add - abc\nb1 drop a1.0\n", "x\n", "= \n",
    "=\n", "=x\n", " = x\n",
]


class Interface(unittest.TestCase):
    def test_arguments(self):
        for function in (album_text, read_album):
            self.assertEqual(len(inspect.signature(function).parameters), 1, function.__name__)

    def test_kinds(self):
        self.assertIs(album_text(Album()).__class__, str)
        self.assertIs(read_album("").__class__, Album)


class AlbumText(unittest.TestCase):
    def test_no_books(self):
        self.assertEqual(album_text(Album()), "")

    def test_a_book_without_deeds(self):
        self.assertEqual(album_text(album_of(x=())), "= x\n")
        self.assertEqual(album_text(album_of(y=(), x=())), "= x\n= y\n")

    def test_one_book(self):
        self.assertEqual(album_text(album_of(abcdef=ONE)), "= abcdef\n" + ONE_TEXT)

    def test_several_names(self):
        self.assertEqual(album_text(album_of(x=TWO, abc=ONE, b=())), TEXT)

    def test_steps_are_not_written(self):
        album = album_of(x=TWO, abc=ONE, b=(), q=ONE)
        album.forget("q"), album.keep("b", ONE), album.back()
        self.assertEqual((album_text(album), album.counts()), (TEXT, (5, 1)))
        album.back()
        self.assertEqual(album_text(album), TEXT.replace("= x\n" + TWO_TEXT, "= q\n" + ONE_TEXT + "= x\n" + TWO_TEXT))


class ReadAlbum(unittest.TestCase):
    def test_no_books(self):
        album = read_album("")
        self.assertEqual((album.names(), album.counts()), ([], (0, 0)))

    def test_books(self):
        self.assertEqual(books_in(read_album(TEXT)), {"abc": ONE, "b": (), "x": TWO})
        self.assertEqual(books_in(read_album("= x\n")), {"x": ()})

    def test_no_steps(self):
        album = read_album(TEXT)
        self.assertEqual(album.counts(), (0, 0))
        for call in (album.back, album.forth):
            with self.assertRaises(NoneLeft):
                call()

    def test_writes_the_same_text_again(self):
        for text in ("", "= x\n", TEXT, "= a\n= b\n= c\n"):
            self.assertEqual(album_text(read_album(text)), text)

    def test_changed_it_goes_as_the_album_itself(self):
        album = album_of(x=TWO, abc=ONE, b=())
        other = read_album(album_text(album))
        for one in (album, other):
            one.forget("abc"), one.join_in("b", ONE), one.keep("x", ()), one.keep("q", TWO), one.back()
        self.assertEqual(books_in(other), books_in(album))
        self.assertEqual((album.counts(), other.counts()), ((6, 1), (3, 1)))
        self.assertEqual([other.forth(), other.back(), other.back(), other.back(), other.back()],
                         ["keep", "keep", "keep", "join", "forget"])
        self.assertEqual(album_text(other), TEXT)
        with self.assertRaises(NoneLeft):
            other.back()

    def test_each_one_read_is_a_new_one(self):
        one, other = read_album(TEXT), read_album(TEXT)
        one.forget("x")
        self.assertEqual((one.names(), other.names()), (["abc", "b"], ["abc", "b", "x"]))

    def test_random_albums(self):
        """[0.2] (g)"""
        source = random.Random(81)
        books = random_books(40) + random_marked_books(40)
        for _ in range(60):
            names = source.sample(["x", "xy", "y", "abcdef", "q", "z", "add"], source.randint(0, 6))
            album = album_of(**{name: source.choice(books) for name in names})
            text = album_text(album)
            with self.subTest(text=text):
                self.assertEqual(text, "".join(f"= {name}\n{written(album.fetch(name))}" for name in sorted(names)))
                self.assertEqual(books_in(read_album(text)), books_in(album))


class Refused(unittest.TestCase):
    def refuse(self, *texts):
        for text in texts:
            with self.subTest(text=text), self.assertRaises(NoText):
                read_album(text)

    def test_names_out_of_order(self):
        self.refuse("= y\n= x\n", "= b\n= abc\n", "= xy\n= x\n", "= a\n= c\n= b\n", "= x\n" + ONE_TEXT + "= b\n")

    def test_names_twice(self):
        self.refuse("= x\n= x\n", "= x\n" + ONE_TEXT + "= x\n" + ONE_TEXT, "= x\n" + ONE_TEXT + "= x\n",
                    "= x\n= x\n" + ONE_TEXT, "= x\n= y\n= x\n", "= x\na1 unmark x\n= x\na2 unmark x\n", TEXT + TEXT)

    def test_names_that_cannot_be(self):
        for name in ("", " ", "X", "x1", "abcdefg", "-", "x y", "x ", " x", "a.b", "=", "= x"):
            self.refuse(f"= {name}\n", f"= {name}\n" + ONE_TEXT, f"= {name}\n= z\n")
        self.assertEqual(read_album("= abcdef\n= z\n").names(), ["abcdef", "z"])

    def test_names_written_otherwise(self):
        self.refuse("=x\n", "=\n", "x\n", "x =\n", " = x\n", "=  x\n", "== x\n", "= x \n", "= x", "=", "= ", "= x\r\n")

    def test_lines_ahead_of_the_first_name(self):
        self.refuse(ONE_TEXT, ONE_TEXT + "= x\n", "\n= x\n", "\n", "\n\n", "a1 unmark x\n= x\n= y\n", "x\n= x\n")

    def test_line_feeds(self):
        self.refuse(TEXT[:-1], TEXT + "\n", "\n" + TEXT, TEXT.replace("= b\n", "= b\n\n"),
                    TEXT.replace("= b\n", "= b "), TEXT.replace("= b\n", "\n= b\n"), TEXT.replace("\n= b", "= b"),
                    "= x", "= x\n\n", "= x\n= y")

    def test_spoilt_books(self):
        for spoilt in SPOILT:
            with self.subTest(spoilt=spoilt), self.assertRaises(NoText):
                read(spoilt)
            self.refuse("= b\n" + spoilt, "= b\n" + spoilt + "= x\n" + TWO_TEXT, "= a\n" + ONE_TEXT + "= b\n" + spoilt)

    def test_a_book_cut_by_a_name(self):
        """What a deed names is to be in its own book."""
        self.refuse("= a\na1 add - to be\n= b\nb2 drop a1.0\n", "= a\na1 unmark x\n= b\na2 undo a1\n")

    def test_spoilt_texts_are_refused_or_write_the_same(self):
        source = random.Random(82)
        kept = 0
        for _ in range(3000):
            at = source.randint(0, len(TEXT))
            spoilt = TEXT[:at] + source.choice(["", source.choice("abxh= 01.-<>\n")]) + TEXT[at + source.randint(0, 2):]
            with self.subTest(spoilt=spoilt):
                try:
                    told = read_album(spoilt)
                except NoText:
                    continue
                self.assertEqual(album_text(told), spoilt)
                kept += spoilt != TEXT
        self.assertGreater(kept, 100)


if __name__ == "__main__":
    unittest.main()
