"""[0.2] (g), [9.1]: books written as texts, and read from them."""

import inspect
import random
import unittest

from helper import (SIGNS, add, drop, kinds_of, mark, random_books, random_marked_books, sign, undo, unmark)
from staymark.deeds import is_book
from staymark.errors import NoText
from staymark.reading import read
from staymark.writing import written

SHOWN = """a1 add - to be
b2 add a1.5 , or not
b3 mark x a1.3> b2.0<
a4 undo b3
"""

# Each kind of deed, None, both sides, and drops of one and of several signs.
BOOK = (
    add(1, "a", None, "abcde fghijk"),
    add(2, "b", sign(1, "a", 11), ", or not"),
    mark(3, "b", "x", (sign(1, "a", 3), "r"), (sign(2, "b", 0), "l")),
    mark(3, "h", "abcdef", (None, "l"), (None, "r")),
    undo(4, "a", (3, "b")),
    drop(5, "c", sign(1, "a", 0)),
    drop(6, "c", sign(1, "a", 2), sign(1, "a", 10), sign(2, "b", 0)),
    unmark(12, "g", "x"),
    undo(345, "a", (12, "g")),
)
TEXT = """a1 add - abcde fghijk
b2 add a1.11 , or not
b3 mark x a1.3> b2.0<
h3 mark abcdef -< ->
a4 undo b3
c5 drop a1.0
c6 drop a1.2 a1.10 b2.0
g12 unmark x
a345 undo g12
"""


def lines_of(text):
    return text.split("\n")[:-1]


class Interface(unittest.TestCase):
    def test_arguments(self):
        for function in (written, read):
            self.assertEqual(len(inspect.signature(function).parameters), 1, function.__name__)

    def test_kinds(self):
        self.assertEqual(kinds_of(read(TEXT)), kinds_of(BOOK))
        self.assertEqual(kinds_of((written(BOOK), written(()), read(""))), kinds_of((TEXT, "", ())))


class Written(unittest.TestCase):
    def test_what_the_document_shows(self):
        # The document shows a sign that its add does not have, a1.5: so it is written, but is no book.
        deeds = (add(1, "a", None, "to be"), add(2, "b", sign(1, "a", 5), ", or not"),
                 mark(3, "b", "x", (sign(1, "a", 3), "r"), (sign(2, "b", 0), "l")), undo(4, "a", (3, "b")))
        self.assertEqual(written(deeds), SHOWN)

    def test_each_kind_of_deed(self):
        self.assertTrue(is_book(BOOK))
        self.assertEqual(written(BOOK), TEXT)
        for number, line in enumerate(lines_of(TEXT)):
            self.assertEqual(written(BOOK[number:number + 1]), line + "\n")

    def test_a_book_without_deeds(self):
        self.assertEqual(written(()), "")

    def test_texts_of_any_signs(self):
        for text in (" ", "  ", " a", "a ", " a b ", "-", "- ", "<", "=", "= x", "a1 add - x", "a1.0<", "\\n", "~!"):
            book = (add(1, "a", None, text),)
            with self.subTest(text=text):
                self.assertEqual(written(book), "a1 add - " + text + "\n")
                self.assertEqual(read(written(book)), book)
                self.assertEqual(read("a1 add - q\nb2 add a1.0 " + text + "\n")[1], add(2, "b", sign(1, "a", 0), text))

    def test_all_signs_and_hands(self):
        parts = [SIGNS[at:at + 20] for at in range(0, len(SIGNS), 20)]
        book = tuple(add(1, hand, None, text) for hand, text in zip("abcdefgh", parts))
        self.assertEqual(read(written(book)), book)
        book = tuple(unmark(1, hand, "x") for hand in "abcdefgh")
        self.assertEqual(written(book), "".join(hand + "1 unmark x\n" for hand in "abcdefgh"))
        self.assertEqual(read(written(book)), book)

    def test_both_sides_of_both_anchors(self):
        for sides, shown in (("ll", "< <"), ("lr", "< >"), ("rl", "> <"), ("rr", "> >")):
            for one, other in ((None, None), (None, sign(1, "a", 0)), (sign(1, "a", 0), None)):
                book = (add(1, "a", None, "q"), mark(2, "b", "k", (one, sides[0]), (other, sides[1])))
                words = ["-" if anchored is None else "a1.0" for anchored in (one, other)]
                line = f"b2 mark k {words[0]}{shown[0]} {words[1]}{shown[2]}\n"
                with self.subTest(line=line):
                    self.assertEqual(written(book), "a1 add - q\n" + line)
                    self.assertEqual(read("a1 add - q\n" + line), book)

    def test_the_longest_drop(self):
        adds = tuple(add(1 + number, "a", None, "x" * 20) for number in range(21))
        signs = [sign(1 + number // 20, "a", number % 20) for number in range(401)]
        book = adds + (drop(30, "b", *signs[:400]),)
        self.assertEqual(read(written(book)), book)
        with self.assertRaises(NoText):
            read(written(adds + (drop(30, "b", *signs),)))


class ReadBack(unittest.TestCase):
    """[0.2] (g)"""

    def test_a_book_without_deeds(self):
        self.assertEqual(read(""), ())

    def test_the_book_again(self):
        self.assertEqual(read(TEXT), BOOK)
        for book in random_books(80) + random_marked_books(80):
            with self.subTest(book=book):
                self.assertEqual(read(written(book)), book)

    def test_what_is_read_writes_the_same_text(self):
        self.assertEqual(written(read(TEXT)), TEXT)

    def test_numbers_of_six_figures(self):
        text = "a1 add - q\na999999 unmark x\n"
        self.assertEqual(read(text), (add(1, "a", None, "q"), unmark(999999, "a", "x")))
        self.assertEqual(read("a100000 add - q\nb100001 drop a100000.0\n")[0], add(100000, "a", None, "q"))

    def test_spoilt_texts_are_refused_or_write_the_same(self):
        """Whatever a text looks like, it is refused, or it is just what its book writes."""
        source = random.Random(51)
        letters = "abh019 .-<>\n= adropundmk~"
        kept = 0
        for book in random_books(60) + random_marked_books(60):
            text = written(book)
            for _ in range(30):
                at = source.randint(0, len(text))
                spoilt = text[:at] + source.choice(["", source.choice(letters)]) + text[at + source.randint(0, 2):]
                with self.subTest(spoilt=spoilt):
                    try:
                        told = read(spoilt)
                    except NoText:
                        continue
                    self.assertTrue(is_book(told))
                    self.assertEqual(written(told), spoilt)
                    kept += spoilt != text
        # Texts of adds may be changed and still be read.
        self.assertGreater(kept, 100)


class Refused(unittest.TestCase):
    HEAD = "a1 add - abc\nb2 unmark x\n"

    def refuse(self, *texts):
        for text in texts:
            with self.subTest(text=text), self.assertRaises(NoText):
                read(text)

    def refuse_behind(self, *lines):
        """What is ahead of the line can be read, so it is the line that is refused."""
        self.assertEqual(len(read(self.HEAD)), 2)
        self.refuse(*[self.HEAD + line + "\n" for line in lines])

    def accept_behind(self, *lines):
        for line in lines:
            with self.subTest(line=line):
                self.assertEqual(len(read(self.HEAD + line + "\n")), 3)

    def test_what_the_document_shows_names_a_sign_too_many(self):
        self.refuse(SHOWN)
        self.assertEqual(len(read(SHOWN.replace("a1.5", "a1.4"))), 4)
        # With a blank at its end, the text has that sign.
        self.assertEqual(len(read(SHOWN.replace("to be\n", "to be \n"))), 4)

    def test_line_feeds(self):
        self.refuse("\n", "\n\n", TEXT[:-1], TEXT + "\n", "\n" + TEXT, TEXT.replace("\nb2", "\n\nb2"),
                    TEXT.replace("\nc5", "c5"), TEXT.replace("\nc5", " c5"), "a1 unmark x", "a1 unmark\nx\n")

    def test_lines_that_are_no_deeds(self):
        self.refuse(" \n", "a1\n", "a1 \n", "add\n", "x\n", "-\n", "= x\n", "= \n", TEXT + "= x\n", "= x\n" + TEXT)

    def test_blanks(self):
        for line in lines_of(TEXT):
            words = line.split(" ")
            upto = 3 if words[1] == "add" else len(words)
            for number in range(1, upto):
                ahead, behind = " ".join(words[:number]), " ".join(words[number:])
                self.refuse(TEXT.replace(line, ahead + behind), TEXT.replace(line, ahead + "  " + behind))
            self.refuse(TEXT.replace(line, " " + line))
            if words[1] != "add":
                self.refuse(TEXT.replace(line + "\n", line + " \n"))

    def test_blanks_behind_the_sign_of_an_add_belong_to_its_text(self):
        self.assertEqual(read("a1 add -  x \n"), (add(1, "a", None, " x "),))

    def test_numbers_with_a_0_ahead(self):
        self.refuse("a01 add - x\n", "a001 unmark x\n", "a0 unmark x\n", "a00 unmark x\n")
        self.refuse_behind("a3 drop a01.0", "a3 drop a1.00", "a3 drop a1.01", "a3 undo a01", "a3 undo a0",
                           "a3 add a1.00 x", "a3 mark x a01.0> -<", "a3 mark x a1.00> -<", "a03 drop a1.0")

    def test_numbers_with_a_sign(self):
        self.refuse("a+1 add - x\n", "a-1 add - x\n", "a--1 add - x\n")
        self.refuse_behind("a3 drop a1.+0", "a3 drop a1.-0", "a3 drop a1.-1", "a3 drop a+1.0", "a3 undo a+1",
                           "a+3 drop a1.0")

    def test_numbers_that_python_alone_takes(self):
        self.refuse("a1_0 add - x\n", "a1_000 unmark x\n", "a1.0 unmark x\n", "a1e3 unmark x\n", "a0x1 unmark x\n",
                    "a\t1 unmark x\n", "a1\t unmark x\n")
        self.refuse_behind("a3 drop a1.0_1", "a3 undo a1_", "a3 undo a 1")

    def test_numbers_of_more_than_six_figures(self):
        self.refuse("a1000000 add - x\n", "a1234567 unmark x\n", "a12345678901234567890 unmark x\n",
                    "a0000001 add - x\n", written((unmark(1000000, "a", "x"),)))
        self.refuse_behind("a3 drop a1.1000000", "a3 drop a1.0000001", "b1000001 undo a1000000")
        self.accept_behind("a999999 drop a1.2")

    def test_ids_that_cannot_be(self):
        self.refuse("i1 add - x\n", "A1 add - x\n", "1a add - x\n", "a add - x\n", "1 add - x\n", "ab1 add - x\n",
                    "- add - x\n", "a1a add - x\n", "a1. unmark x\n", ".1 unmark x\n", "-1 unmark x\n")
        self.refuse_behind("a3 undo", "a3 undo i1", "a3 undo a", "a3 undo 1", "a3 undo -", "a3 undo a1.0",
                           "a3 drop i1.0", "a3 drop .0", "a3 drop 1.0", "a3 add A1.0 x")

    def test_signs_that_cannot_be(self):
        self.refuse_behind("a3 drop a1", "a3 drop a1.", "a3 drop a1.a", "a3 drop a1.0.0", "a3 drop a1..0",
                           "a3 drop a1.0<", "a3 drop -", "a3 drop a1.0 -", "a3 drop a1,0", "a3 add a1 x",
                           "a3 add a1. x", "a3 add -- x", "a3 add -< x", "a3 add a1.0> x", "a3 add None x")

    def test_anchors_that_cannot_be(self):
        self.refuse_behind("a3 mark x -< -", "a3 mark x - ->", "a3 mark x < >", "a3 mark x a1.0 a1.1",
                           "a3 mark x a1.0l a1.1r", "a3 mark x a1.0<> a1.1<", "a3 mark x <a1.0 >a1.1",
                           "a3 mark x -= ->", "a3 mark x a1< ->", "a3 mark x --< ->", "a3 mark x a1.0 < ->")
        self.accept_behind("a3 mark x -< ->", "a3 mark x a1.0> a1.1<")

    def test_words_that_cannot_be(self):
        self.refuse_behind("a3 Add - x", "a3 ad - x", "a3 adds - x", "a3 dropped a1.0", "a3 marks x -< ->",
                           "a3 redo a1", "a3 undo", "a3 a1", "a3 - x", "add a3 - x", "a3  a1.0", "a3 unmarked x",
                           "a3 = x")

    def test_names_that_cannot_be(self):
        for name in ("", "X", "x1", "abcdefg", "x-", "x.y", "-", "a_b", "x y"):
            self.refuse_behind("a3 unmark " + name, "a3 mark " + name + " -< ->")
        self.accept_behind("a3 unmark abcdef", "a3 mark z -< ->")

    def test_too_few_words(self):
        for line in lines_of(TEXT)[2:]:
            words = line.split(" ")
            for many in range(1, len(words)):
                # A drop of fewer signs is a deed, too.
                if words[1] != "drop" or many < 3:
                    self.refuse(TEXT.replace(line + "\n", " ".join(words[:many]) + "\n"))
        self.refuse("a1 add -\n", "a1 add - \n", "a1 add\n", "a1 add \n", "a1 add x\n")

    def test_too_many_words(self):
        self.refuse_behind("a3 mark x -< -> x", "a3 mark x -< -> ->", "a3 unmark x y", "a3 undo a1 a1", "a3 undo a1 b2",
                           "a3 undo a1 x", "a3 drop a1.0 x")

    def test_texts_of_none_and_too_many_signs(self):
        self.refuse("a1 add - " + "x" * 21 + "\n", "a1 add - " + " " * 21 + "\n", "a1 add - \n", "a1 add -\n")
        self.assertEqual(read("a1 add - " + "x" * 20 + "\n"), (add(1, "a", None, "x" * 20),))

    def test_signs_of_a_drop_not_rising_or_twice(self):
        self.refuse_behind("a3 drop a1.1 a1.0", "a3 drop a1.0 a1.0", "a3 drop a1.0 a1.2 a1.1")
        self.accept_behind("a3 drop a1.0 a1.1 a1.2")
        # By numbers, not by how they are written.
        adds = "a1 add - abcdefghijkl\nb1 add - x\na2 add - y\n"
        self.assertEqual(len(read(adds + "c3 drop a1.2 a1.10 b1.0 a2.0\n")), 4)
        self.refuse(adds + "c3 drop a1.10 a1.2\n", adds + "c3 drop a1.0 a2.0 b1.0\n")

    def test_ids_not_rising_or_twice(self):
        self.refuse("a2 unmark x\na1 unmark x\n", "b1 unmark x\na1 unmark x\n", "a1 unmark x\na1 unmark x\n",
                    "a1 unmark x\na1 unmark y\n", "a10 unmark x\na9 unmark x\n", "a2 unmark x\nb1 unmark x\n")
        self.assertEqual(len(read("a1 unmark x\nb1 unmark x\na9 unmark x\na10 unmark x\n")), 4)

    def test_names_what_the_book_does_not_have(self):
        self.refuse_behind("a3 undo c1", "a3 undo a2", "a3 drop b1.0", "a3 drop a1.3", "a3 drop b2.0", "a3 add a1.3 x",
                           "a3 add b2.0 x", "a3 mark x a1.3> -<", "a3 mark x -> a1.3<", "a3 mark x b2.0> -<",
                           "a3 drop a1.0 a1.3")
        self.accept_behind("a3 undo a1", "a3 undo b2", "a3 drop a1.2", "a3 add a1.2 x", "a3 mark x a1.2> a1.2<")

    def test_a_time_that_is_not_less(self):
        self.refuse_behind("a3 undo a3", "c2 undo b2", "a3 undo b3", "a3 undo a4")
        self.refuse("a1 add - abc\nb1 drop a1.0\n", "a1 add - abc\nb1 add a1.0 x\n", "a1 add - abc\nb1 undo a1\n",
                    "a1 add - abc\nb1 mark x a1.0> -<\n", "a1 add - abc\nb1 mark x -> a1.0<\n",
                    "a1 undo b2\nb2 unmark x\n")

    def test_lines_exchanged(self):
        lines = lines_of(TEXT)
        for one in range(len(lines)):
            for other in range(one):
                changed = list(lines)
                changed[one], changed[other] = lines[other], lines[one]
                self.refuse("".join(line + "\n" for line in changed))

    def test_lines_left_out(self):
        named = (0, 1, 2, 7)
        for number in range(len(BOOK)):
            left = "".join(line + "\n" for at, line in enumerate(lines_of(TEXT)) if at != number)
            if number in named:
                self.refuse(left)
            else:
                self.assertEqual(read(left), BOOK[:number] + BOOK[number + 1:])

    def test_lines_twice(self):
        for line in lines_of(TEXT):
            self.refuse(TEXT.replace(line + "\n", (line + "\n") * 2), TEXT + line + "\n")

    def test_every_sign_left_out_but_of_a_text_of_an_add(self):
        for line in lines_of(TEXT):
            at = TEXT.index(line)
            for number in range(len(line)):
                spoilt = TEXT[:at + number] + TEXT[at + number + 1:]
                try:
                    told = read(spoilt)
                except NoText:
                    continue
                with self.subTest(spoilt=spoilt):
                    self.assertEqual(written(told), spoilt)
                    self.assertNotEqual(told, BOOK)


if __name__ == "__main__":
    unittest.main()
