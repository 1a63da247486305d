"""A hand, which keeps a book and does deeds at places of its text, and hands that meet."""

from staymark.errors import NoneLeft, NoPlace
from staymark.joining import ready
from staymark.marks import anchor_at, mark_named, marks_of
from staymark.orders import shown_in, text_of, undone_in


def alike_at_beginning(one, other):
    many = 0
    while many < min(len(one), len(other)) and one[many] == other[many]:
        many = many + 1
    return many


def alike_at_end(one, other):
    return alike_at_beginning(list(reversed(one)), list(reversed(other)))


def signs_from(book, place, many):
    shown = shown_in(book)
    if place < 0 or many < 0 or place + many > len(shown):
        raise NoPlace(f"the text has no {many!r} signs from the place {place!r} on")
    return [pair[0] for pair in shown[place:place + many]]


class Hand:
    def __init__(self, letter):
        self.letter = letter
        self.book = ()
        self.waiting = []
        self.done = []
        self.undos = []

    def known(self):
        return self.book

    def text(self):
        return text_of(self.book)

    def put_down(self, word, parts):
        # The greatest time is that of the last deed, so the new one stands behind all others.
        time = self.book[-1][1][0] if self.book else 0
        deed = (word, (time + 1, self.letter)) + parts
        self.book = self.book + (deed,)
        return deed

    def perform(self, word, parts):
        deed = self.put_down(word, parts)
        self.done.append(deed[1])
        self.undos = []
        return deed

    def add(self, place, text):
        # What the anchor holds on to at its left is just what the text is added behind.
        return self.perform("add", (anchor_at(self.book, place, "l")[0], text))

    def drop(self, place, many):
        signs = signs_from(self.book, place, many)
        if not signs:
            raise NoPlace(f"no sign from the place {place!r} on is to be dropped")
        return self.perform("drop", (tuple(sorted(signs)),))

    def mark(self, name, place, many, sides):
        # Asked for its refusal: the anchors alone would let a number below 0 pass.
        signs_from(self.book, place, many)
        start = anchor_at(self.book, place, sides[0])
        end = anchor_at(self.book, place + many, sides[1])
        return self.perform("mark", (name, start, end))

    def unmark(self, name):
        # Asked for its refusal alone.
        mark_named(marks_of(self.book), name)
        return self.perform("unmark", (name,))

    def undo_last_of(self, ids):
        undone = undone_in(self.book)
        left = [which for which in ids if which not in undone]
        if not left:
            raise NoneLeft("no deed that could be undone is in effect")
        return self.put_down("undo", (left[-1],))

    def undo(self):
        deed = self.undo_last_of(self.done)
        self.undos.append(deed[1])
        return deed

    def redo(self):
        return self.undo_last_of(self.undos)

    def become(self, text):
        old = self.text()
        head = alike_at_beginning(old, text)
        tail = alike_at_end(old[head:], text[head:])
        told = []
        if head + tail < len(old):
            told.append(self.drop(head, len(old) - tail - head))
        if head + tail < len(text):
            told.append(self.add(head, text[head:len(text) - tail]))
        return told

    def after_taking(self, deeds):
        return ready(self.book, self.waiting + list(deeds))

    def settle(self, outcome):
        self.book = outcome[0]
        self.waiting = outcome[1]

    def take(self, deeds):
        self.settle(self.after_taking(deeds))
        return len(self.waiting)


def met(one, other):
    # Both are settled at the end only, so that a refusal at the second changes nothing at the first.
    first = one.after_taking(other.known())
    second = other.after_taking(first[0])
    # Deeds that waited with one of them may have come just now, and the other is to have them too.
    while first[0] != second[0]:
        first = ready(second[0], first[1])
        second = ready(first[0], second[1])
    one.settle(first)
    other.settle(second)
    return first[0]
