"""[0.1], [0.2] of whole books, and [0.3]: what is told is new, what is handed in stays as it is, nothing is kept."""

import copy
import random
import unittest

from helper import (add, album_of, books_in, drop, leaning_by_words, marks_by_words, named_by, order_by_insertion,
                    random_books, random_marked_books, random_part, shown_by_words, sign, spread, text_by_words, undo,
                    unmark)
from staymark.albums import Album
from staymark.albumtexts import album_text, read_album
from staymark.changes import changed_by, changes_between, moved_marks
from staymark.clocks import clock_of, kept_to, later_clock, newer
from staymark.deeds import is_book
from staymark.errors import BadBook, MarkError, NoName, NoneLeft, NoText
from staymark.hands import Hand, met
from staymark.history import as_of, by_hand, lost, texts_of
from staymark.joining import joined, lacking, ready, trimmed, without
from staymark.leaning import depth, layers, named_in
from staymark.marks import anchor_at, drawn, hand_marks, marked, marks_of, names_at, place_of
from staymark.orders import authors_of, in_effect, leaning_on, signs_of, text_of
from staymark.reading import read
from staymark.stretches import bare, crossing, inner_of, pieces, widest
from staymark.writing import written

BOOK = spread("abcdef", ("x", 0, 4), ("y", 2, 6), ("z", 3, 3), ("in", 1, 2))
WAITING = undo(9, "c", (8, "c"))
NOTHING_YET = (0, 0, 0, 0, 0, 0, 0, 0)
GONE = (add(1, "a", None, "abc"), drop(2, "b", *[sign(1, "a", number) for number in range(3)]))
ALBUM = album_of(x=BOOK, y=GONE, z=())
EMPTY = Album()

# Each tells a list, or something that holds lists.
TELLS = [
    lambda: marks_of(BOOK), lambda: names_at(BOOK, 1), lambda: names_at(BOOK, 3), lambda: hand_marks(BOOK),
    lambda: pieces(BOOK), lambda: bare(spread("abc", ("x", 1, 2))), lambda: crossing(BOOK),
    lambda: inner_of(BOOK, "x"), lambda: inner_of(BOOK, "z"), lambda: lacking(BOOK[:1], BOOK),
    lambda: ready(BOOK, [WAITING]), lambda: ready(BOOK, []), lambda: marks_of(()), lambda: hand_marks(()),
    lambda: pieces(()), lambda: bare(()), lambda: crossing(()), lambda: lacking((), ()),
    lambda: changes_between(BOOK[:1], BOOK), lambda: changes_between((), BOOK), lambda: moved_marks(BOOK[:2], BOOK),
    lambda: moved_marks((), ()), lambda: texts_of(BOOK), lambda: texts_of(()), lambda: lost(GONE), lambda: lost(()),
    lambda: by_hand(BOOK, "a"), lambda: by_hand(BOOK, "b"), lambda: by_hand((), "a"),
    lambda: signs_of(BOOK), lambda: signs_of(()), lambda: authors_of(BOOK), lambda: authors_of(()),
    lambda: leaning_on(BOOK, (1, "a")), lambda: leaning_on(BOOK, (5, "a")),
    lambda: layers(BOOK), lambda: layers(()), lambda: named_in(BOOK, (3, "a")), lambda: named_in(BOOK, (1, "a")),
    lambda: newer(BOOK, NOTHING_YET), lambda: newer((), NOTHING_YET), lambda: ALBUM.names(),
    lambda: EMPTY.names(), lambda: ALBUM.twin().names(),
]


def shows(book):
    return (text_of(book), marks_of(book))


def tells(book):
    """All that is told of a book alone."""
    return [signs_of(book), authors_of(book), drawn(book), hand_marks(book), pieces(book), bare(book), crossing(book),
            widest(book), trimmed(book), shows(book), changes_between((), book), moved_marks((), book), texts_of(book),
            lost(book), [by_hand(book, hand) for hand in "abc"], written(book), layers(book), clock_of(book),
            newer(book, NOTHING_YET), [named_in(book, deed[1]) for deed in book]]


def spoil(thing):
    """Changes each list in the thing."""
    if isinstance(thing, (list, tuple)):
        for part in thing:
            spoil(part)
    if isinstance(thing, list):
        thing.append("more")
        thing.reverse()


def some_deed(source, hand):
    """The hand does something, or is refused it."""
    long = len(hand.text())
    place = source.randint(0, long)
    name = source.choice(["x", "yy", "k"])
    sides = source.choice("lr") + source.choice("lr")
    text = "".join(source.choice("abc ") for _ in range(source.randint(1, 5)))
    choices = [
        lambda: hand.add(place, text), lambda: hand.add(place, text), lambda: hand.drop(place, source.randint(1, 3)),
        lambda: hand.mark(name, place, source.randint(0, 4), sides), lambda: hand.unmark(name), hand.undo, hand.redo,
        lambda: hand.become((hand.text()[:place] + text)[:20]),
    ]
    before = hand.known()
    try:
        source.choice(choices)()
    except MarkError:
        assert hand.known() == before


def written_together(source, many):
    """Three hands that write, and meet by and by, some of them by texts and by parts only; their books at the end."""
    hands = [Hand(letter) for letter in "adh"]
    for _ in range(many):
        one, other = source.sample(hands, 2)
        step = source.randint(0, 7)
        if step == 0:
            met(one, other)
        elif step == 1:
            one.take(list(read(written(other.known()))))
        elif step == 2:
            one.take(newer(other.known(), clock_of(one.known())))
        elif step == 3:
            deeds = list(other.known())
            source.shuffle(deeds)
            one.take(deeds[:source.randint(0, len(deeds))])
        else:
            some_deed(source, one)
    return [hand.known() for hand in hands]


class Together(unittest.TestCase):
    """[0.1]: books that go from hand to hand, are joined, written, read, made less, kept and taken back."""

    def books(self):
        source = random.Random(91)
        return [written_together(source, 40) for _ in range(30)]

    def test_what_the_document_says(self):
        for books in self.books():
            for book in books:
                with self.subTest(book=book):
                    self.assertTrue(is_book(book))
                    self.assertEqual(signs_of(book), order_by_insertion(book))
                    self.assertEqual(text_of(book), text_by_words(book))
                    self.assertEqual(marks_of(book), marks_by_words(book))
                    self.assertEqual(read(written(book)), book)
                    self.assertEqual(kept_to(book, clock_of(book)), book)

    def test_joined_in_an_album_as_by_themselves(self):
        for one, two, three in self.books():
            whole = joined(joined(one, two), three)
            album = album_of(x=one, y=three)
            self.assertEqual(album.join_in("x", two), joined(one, two) != one)
            album = read_album(album_text(album))
            album.join_in("y", two), album.join_in("y", album.fetch("x")), album.join_in("x", three)
            with self.subTest(whole=whole):
                self.assertEqual(tells(album.fetch("x")), tells(whole))
                self.assertEqual(tells(album.fetch("y")), tells(whole))
                self.assertEqual([album.back(), album.back(), album.back()], ["join", "join", "join"])
                self.assertEqual(books_in(album), {"x": joined(one, two), "y": three})

    def test_a_trimmed_book_kept_and_taken_back(self):
        for books in self.books():
            book = books[0]
            album = album_of(x=book)
            with self.subTest(book=book):
                self.assertEqual(album.keep("x", trimmed(album.fetch("x"))), text_of(book))
                self.assertEqual(album.join_in("x", book), trimmed(book) != book)
                self.assertEqual(tells(album.fetch("x")), tells(book))
                album.back()
                self.assertEqual(shows(read_album(album_text(album)).fetch("x")), shows(book))
                album.back()
                self.assertEqual(album.fetch("x"), book)

    def test_changes_when_books_are_joined(self):
        for one, two, three in self.books():
            whole = joined(joined(one, two), three)
            for book in (one, two, three):
                with self.subTest(book=book, whole=whole):
                    self.assertEqual(changed_by(text_of(book), changes_between(book, whole)), text_of(whole))
                    moved = {name: (then, now) for name, then, now in moved_marks(book, whole)}
                    for name in {mark[0] for mark in marks_of(book) + marks_of(whole)}:
                        marks = [{mark[0]: mark[1:] for mark in marks_of(which)}.get(name) for which in (book, whole)]
                        self.assertEqual(moved.get(name, (marks[0], marks[0])), tuple(marks))

    def test_what_a_hand_lacks_by_its_clock(self):
        """Of hands that take whole books only, what is newer than the clock is just what is lacking."""
        source = random.Random(92)
        for _ in range(20):
            hands = [Hand(letter) for letter in "abc"]
            for _ in range(30):
                one, other = source.sample(hands, 2)
                some_deed(source, one)
                if source.random() < 0.3:
                    self.assertEqual(newer(other.known(), clock_of(one.known())), lacking(one.known(), other.known()))
                    clock = later_clock(clock_of(one.known()), clock_of(other.known()))
                    self.assertEqual(clock_of(met(one, other)), clock)


class Joined(unittest.TestCase):
    """[0.2] (b)"""

    def test_books_tell_the_same_whichever_is_joined_to_which(self):
        source = random.Random(31)
        for book in random_marked_books(50):
            one, two = random_part(source, book), random_part(source, book)
            wanted = tells(joined(one, two))
            with self.subTest(one=one, two=two):
                self.assertEqual(tells(joined(two, one)), wanted)
                self.assertEqual(tells(joined(joined(one, two), joined(two, one))), wanted)
                self.assertEqual(tells(ready(one, list(reversed(two)))[0]), wanted)


class Anchors(unittest.TestCase):
    """[0.2] (c)"""

    def test_keep_the_order_of_their_signs(self):
        for book in random_books(60):
            anchors = [(pair[0], side) for pair in signs_of(book) for side in "rl"]
            places = [place_of(book, anchor) for anchor in anchors]
            with self.subTest(book=book):
                self.assertEqual(places, sorted(places))

    def test_stay_but_for_what_is_added_or_dropped_there(self):
        source = random.Random(32)
        for book in random_marked_books(60):
            part = random_part(source, book)
            then, now = [[pair[0] for pair in shown_by_words(one)] for one in (part, book)]
            both = [one for one in now if one in then]
            for anchor in [(pair[0], side) for pair in signs_of(part) for side in "lr"]:
                ahead_then = [one for one in then[:place_of(part, anchor)] if one in both]
                ahead_now = [one for one in now[:place_of(book, anchor)] if one in both]
                with self.subTest(part=part, book=book, anchor=anchor):
                    self.assertEqual(ahead_then, ahead_now)

    def test_a_mark_stays_beside_what_is_added_and_dropped(self):
        hand = Hand("a")
        hand.add(0, "to be or not")
        hand.mark("x", 3, 2, "rl")
        hand.add(0, "so: ")
        hand.add(16, "!")
        self.assertEqual(drawn(hand.known()), "so: to x>be<x or not!")
        hand.drop(0, 6)
        self.assertEqual(drawn(hand.known()), " x>be<x or not!")
        hand.add(2, "--")
        self.assertEqual(drawn(hand.known()), " x>b--e<x or not!")


class Undone(unittest.TestCase):
    """[0.2] (d)"""

    def test_as_if_never_done(self):
        for book in random_books(60) + random_marked_books(60):
            time = book[-1][1][0] + 1 if book else 1
            for deed in book:
                undone = book + (undo(time, "h", deed[1]),)
                with self.subTest(book=book, deed=deed):
                    if in_effect(book, deed[1]) and not leaning_by_words(book, deed[1]):
                        self.assertEqual(shows(undone), shows(without(book, deed[1])))
                    if in_effect(book, deed[1]):
                        self.assertEqual(shows(undone + (undo(time + 1, "g", (time, "h")),)), shows(book))


class Changed(unittest.TestCase):
    """[0.2] (f)"""

    def test_changes_lead_from_each_text_to_the_next(self):
        for book in random_books(40) + random_marked_books(40):
            text = ""
            for time, then in enumerate(texts_of(book)[1:]):
                text = changed_by(text, changes_between(as_of(book, time), as_of(book, time + 1)))
                with self.subTest(book=book, time=time):
                    self.assertEqual(text, then)

    def test_what_a_hand_takes_changes_its_text_just_so(self):
        one, other = Hand("a"), Hand("b")
        one.add(0, "to be")
        met(one, other)
        one.become("to see")
        other.add(5, ", or not"), other.mark("x", 3, 2, "rl")
        before = one.known()
        one.take(lacking(before, other.known()))
        changes = changes_between(before, one.known())
        self.assertEqual((changes, one.text()), ([(6, "", ", or not")], "to see, or not"))
        self.assertEqual(moved_marks(before, one.known()), [("x", None, (5, 6))])
        before = other.known()
        met(one, other)
        self.assertEqual(changes_between(before, other.known()), [(3, "b", "se")])
        self.assertEqual(moved_marks(before, other.known()), [("x", (3, 5), (5, 6))])

    def test_pieces_make_up_the_text(self):
        for book in random_marked_books(40):
            self.assertEqual("".join(piece for piece, _ in pieces(book)), text_of(book))


class Texts(unittest.TestCase):
    """[0.2] (g)"""

    def test_books_that_go_as_texts_tell_the_same(self):
        source = random.Random(33)
        for book in random_books(30) + random_marked_books(30):
            one, two = random_part(source, book), random_part(source, book)
            with self.subTest(one=one, two=two):
                self.assertEqual(tells(read(written(book))), tells(book))
                self.assertEqual(joined(read(written(one)), read(written(two))), joined(one, two))
                self.assertEqual(read(written(trimmed(book))), trimmed(book))

    def test_one_text_is_of_one_book(self):
        books = random_books(60)
        self.assertEqual(len({written(book) for book in books}), len(set(books)))


class Leaning(unittest.TestCase):
    """[0.2] (h)"""

    def test_a_deed_is_deeper_than_all_that_it_names(self):
        for book in random_books(30) + random_marked_books(30):
            at = {which: level for level, layer in enumerate(layers(book)) for which in layer}
            for deed in book:
                with self.subTest(book=book, deed=deed):
                    self.assertEqual(at[deed[1]], depth(book, deed[1]))
                    self.assertTrue(all(at[named] < at[deed[1]] for named in named_by(deed)))


class Clocks(unittest.TestCase):
    """[0.2] (i)"""

    def test_up_to_a_lesser_clock(self):
        source = random.Random(34)
        for book in random_books(60):
            own = clock_of(book)
            lesser = tuple(source.randint(0, number) for number in own)
            with self.subTest(book=book, lesser=lesser):
                self.assertEqual(kept_to(book, own), book)
                self.assertTrue(is_book(kept_to(book, lesser)))
                self.assertEqual(newer(kept_to(book, lesser), lesser), [])
                self.assertEqual(joined(kept_to(book, lesser), book), book)


class Albums(unittest.TestCase):
    """[0.2] (j)"""

    def test_all_back_and_all_forth(self):
        source = random.Random(35)
        for book in random_books(20):
            album, states, words = Album(), [{}], []
            for _ in range(12):
                name, part = source.choice("xyz"), random_part(source, book)
                word = source.choice(["keep", "join", "forget"]) if name in album.names() else "keep"
                {"keep": lambda: album.keep(name, part), "join": lambda: album.join_in(name, part),
                 "forget": lambda: album.forget(name)}[word]()
                words.append(word)
                states.append(books_in(album))
            for step in reversed(range(12)):
                self.assertEqual((album.back(), books_in(album)), (words[step], states[step]))
            self.assertEqual(album.counts(), (0, 12))
            for step in range(12):
                self.assertEqual((album.forth(), books_in(album)), (words[step], states[step + 1]))


class ToldAndHandedIn(unittest.TestCase):
    """[0.3]"""

    def test_told_lists_are_new_ones(self):
        for number, tell in enumerate(TELLS):
            first = tell()
            kept = copy.deepcopy(first)
            spoil(first)
            with self.subTest(number=number):
                self.assertEqual(tell(), kept)

    def test_no_list_stands_twice_in_what_is_told(self):
        for number, tell in enumerate(TELLS):
            told = tell()
            found = [part for whole in told if isinstance(whole, tuple) for part in whole if isinstance(part, list)]
            with self.subTest(number=number):
                self.assertEqual(len({id(part) for part in found}), len(found))

    def test_books_are_not_changed(self):
        for book in random_marked_books(30):
            before = repr(book)
            tells(book)
            self.assertEqual(repr(book), before)

    def test_list_of_ready_is_not_changed(self):
        deeds = [WAITING, BOOK[1], BOOK[0], WAITING]
        kept = list(deeds)
        told = ready((), deeds)
        self.assertEqual(deeds, kept)
        spoil(told)
        self.assertEqual(deeds, kept)
        deeds.clear()
        self.assertEqual(told[0], BOOK[:2])

    def test_list_of_changed_by_is_not_changed(self):
        changes = changes_between(GONE, GONE + (undo(3, "a", (2, "b")),))
        kept = list(changes)
        self.assertEqual([changed_by("", changes), changed_by("", changes), changes], ["abc", "abc", kept])

    def test_list_of_take_is_not_changed_and_not_kept(self):
        hand = Hand("h")
        deeds = [WAITING, BOOK[1], BOOK[0]]
        kept = list(deeds)
        self.assertEqual(hand.take(deeds), 1)
        self.assertEqual(deeds, kept)
        deeds.clear()
        deeds.append(unmark(1, "g", "q"))
        self.assertEqual((hand.known(), hand.take([])), (BOOK[:2], 1))
        waiting = [WAITING]
        other = Hand("g")
        other.take(waiting)
        waiting.clear()
        self.assertEqual(other.take([]), 1)

    def test_list_of_become_is_not_kept(self):
        hand = Hand("a")
        hand.add(0, "abc")
        hand.become("axc").clear()
        self.assertEqual((hand.text(), hand.undo()[2], hand.undo()[2]), ("axc", (3, "a"), (2, "a")))
        self.assertEqual(hand.become("abc"), [])
        hand.become("abc").append("more")
        self.assertEqual(hand.become("abc"), [])

    def test_a_told_book_stays_as_it_was(self):
        one, other = Hand("a"), Hand("b")
        one.add(0, "abc")
        book = one.known()
        together = met(one, other)
        one.add(0, "x"), other.drop(0, 1), one.undo()
        self.assertEqual((book, together), ((add(1, "a", None, "abc"),), (add(1, "a", None, "abc"),)))
        self.assertEqual((one.text(), other.text()), ("abc", "bc"))

    def test_nothing_is_kept_from_one_book_to_the_other(self):
        wanted = [tells(book) for book in random_marked_books(20)]
        for book in random_books(20):
            tells(book)
        self.assertEqual([tells(book) for book in random_marked_books(20)], wanted)

    def test_what_is_refused_changes_nothing(self):
        hand = Hand("a")
        hand.add(0, "abc")
        hand.mark("x", 0, 1, "lr")
        hand.undo()
        hand.take([WAITING])
        before = hand.known()
        refused = [("add", -1, "x"), ("add", 4, "x"), ("drop", 0, 0), ("drop", 2, 2), ("drop", -1, 1),
                   ("mark", "y", 2, 2, "lr"), ("mark", "y", 2, -1, "lr"), ("unmark", "y"), ("unmark", "x"),
                   ("take", [add(1, "a", None, "abd"), unmark(9, "b", "x"), undo(20, "b", (19, "b"))])]
        for call in refused:
            with self.subTest(call=call), self.assertRaises(MarkError):
                getattr(hand, call[0])(*call[1:])
            self.assertEqual((hand.known(), hand.text()), (before, "abc"))
        self.assertEqual(hand.take([]), 1)
        # What can be undone and done again is as it was, too.
        self.assertEqual(hand.redo(), undo(4, "a", (3, "a")))
        self.assertEqual(hand.undo(), undo(5, "a", (2, "a")))

    def test_what_an_album_refuses_changes_nothing(self):
        album = album_of(x=BOOK, y=GONE, z=())
        album.back()
        refused = [(NoName, "fetch", "z"), (NoName, "forget", "z"), (NoName, "join_in", "z", BOOK),
                   (BadBook, "join_in", "y", BOOK), (BadBook, "join_in", "x", GONE)]
        for error, name, *arguments in refused:
            with self.subTest(name=name, arguments=arguments), self.assertRaises(error):
                getattr(album, name)(*arguments)
            self.assertEqual((books_in(album), album.counts()), ({"x": BOOK, "y": GONE}, (2, 1)))
        album.forth()
        with self.assertRaises(NoneLeft):
            album.forth()
        self.assertEqual((books_in(album), album.counts()), ({"x": BOOK, "y": GONE, "z": ()}, (3, 0)))
        with self.assertRaises(NoText):
            read_album(album_text(album) + "= a\n")
        self.assertEqual(album.counts(), (3, 0))

    def test_refused_books_are_not_changed(self):
        unlike = (add(1, "a", None, "xyz"),)
        before = (repr(BOOK), repr(unlike))
        with self.assertRaises(BadBook):
            joined(BOOK, unlike)
        self.assertEqual((repr(BOOK), repr(unlike)), before)

    def test_the_same_is_told_each_time(self):
        self.assertEqual([marked(BOOK, "x"), marked(BOOK, "x")], ["abcd", "abcd"])
        self.assertEqual([anchor_at(BOOK, 2, "l"), anchor_at(BOOK, 2, "l")], [(sign(1, "a", 1), "l")] * 2)


if __name__ == "__main__":
    unittest.main()
