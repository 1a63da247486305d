"""How marks lie in the text, and to one another."""

from staymark.marks import mark_named, marks_of, names_holding
from staymark.orders import text_of


def cuts_of(text, marks):
    begins = [mark[1] for mark in marks]
    ends = [mark[2] for mark in marks]
    return sorted(set([0, len(text)] + begins + ends))


def pieces(book):
    text = text_of(book)
    marks = marks_of(book)
    cuts = cuts_of(text, marks)
    told = []
    for number in range(len(cuts) - 1):
        begin = cuts[number]
        end = cuts[number + 1]
        told.append((text[begin:end], names_holding(marks, begin, end)))
    return told


def bare(book):
    told = []
    begin = 0
    for piece in pieces(book):
        end = begin + len(piece[0])
        # A mark without signs cuts pieces, but it holds none of their signs.
        if not piece[1] and told and told[-1][1] == begin:
            told[-1] = (told[-1][0], end)
        elif not piece[1]:
            told.append((begin, end))
        begin = end
    return told


def holds(mark, other):
    return other[1] < other[2] and mark[1] <= other[1] and other[2] <= mark[2]


def cross(mark, other):
    if holds(mark, other) or holds(other, mark):
        return False
    return max(mark[1], other[1]) < min(mark[2], other[2])


def crossing(book):
    marks = marks_of(book)
    told = []
    for mark in marks:
        told.extend([(mark[0], other[0]) for other in marks if mark[0] < other[0] and cross(mark, other)])
    return told


def inner_of(book, name):
    marks = marks_of(book)
    outer = mark_named(marks, name)
    return [mark[0] for mark in marks if mark[0] != name and holds(outer, mark)]


def widest(book):
    marks = marks_of(book)
    if not marks:
        return None
    most = max([mark[2] - mark[1] for mark in marks])
    return [mark[0] for mark in marks if mark[2] - mark[1] == most][0]
