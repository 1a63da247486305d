"""Books read from texts."""

from staymark.deeds import is_book
from staymark.errors import NoText
from staymark.writing import SIDE_SIGNS, written

FIGURES = "0123456789"
MOST_FIGURES = 6


def number_in(word):
    if not 1 <= len(word) <= MOST_FIGURES or not all([figure in FIGURES for figure in word]):
        raise NoText(f"{word!r} is no number of at most {MOST_FIGURES} figures")
    return int(word)


def id_in(word):
    return (number_in(word[1:]), word[:1])


def sign_in(word):
    if word == "-":
        return None
    parts = word.partition(".")
    return (id_in(parts[0]), number_in(parts[2]))


def anchor_in(word):
    for side in SIDE_SIGNS:
        if word.endswith(SIDE_SIGNS[side]):
            return (sign_in(word[:-1]), side)
    raise NoText(f"{word!r} is no anchor")


def parts_in(word, rest):
    words = rest.split(" ")
    if word == "add":
        # Cut at the first blank alone: those behind it belong to the text.
        halves = rest.partition(" ")
        return (sign_in(halves[0]), halves[2])
    if word == "drop":
        return (tuple([sign_in(sign) for sign in words]),)
    if word == "mark" and len(words) == 3:
        return (words[0], anchor_in(words[1]), anchor_in(words[2]))
    if word == "unmark":
        return (rest,)
    if word == "undo":
        return (id_in(rest),)
    raise NoText(f"no deed is written as {word!r} and {rest!r}")


def deed_in(line):
    halves = line.partition(" ")
    behind = halves[2].partition(" ")
    return (behind[0], id_in(halves[0])) + parts_in(behind[0], behind[2])


def read(text):
    book = tuple([deed_in(line) for line in text.split("\n")[:-1]])
    # Written again, it tells what was read too freely: a 0 ahead, or a line feed lacking at the end.
    if not is_book(book) or written(book) != text:
        raise NoText("the text is not the writing of a book")
    return book
