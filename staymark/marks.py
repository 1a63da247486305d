"""Where anchors stand, which marks there are, and what they hold."""

from staymark.deeds import SIDES
from staymark.errors import NoName, NoPlace, NoSign
from staymark.orders import presence_in, shown_in, text_of, undone_in


def places_in(book):
    # By signs and None: the places of two anchors, in the order of SIDES.
    places = {}
    behind = 0
    for step in presence_in(book):
        ahead = behind
        if step[1]:
            behind = ahead + 1
        places[step[0][0]] = (behind, ahead)
    places[None] = (0, behind)
    return places


def anchored(places, anchor):
    return places[anchor[0]][SIDES.index(anchor[1])]


def place_of(book, anchor):
    places = places_in(book)
    if anchor[0] not in places:
        raise NoSign(f"the book has no sign for {anchor!r}")
    return anchored(places, anchor)


def anchor_at(book, place, side):
    shown = shown_in(book)
    if not 0 <= place <= len(shown):
        raise NoPlace(f"the text has no place {place!r}")
    number = place - 1 if side == "l" else place
    if not 0 <= number < len(shown):
        return (None, side)
    return (shown[number][0], side)


def mark_deeds(book):
    undone = undone_in(book)
    last = {}
    for deed in book:
        if deed[0] in ("mark", "unmark") and deed[1] not in undone:
            last[deed[2]] = deed
    return [last[name] for name in sorted(last) if last[name][0] == "mark"]


def marks_of(book):
    places = places_in(book)
    told = []
    for deed in mark_deeds(book):
        begin = anchored(places, deed[3])
        told.append((deed[2], begin, max(begin, anchored(places, deed[4]))))
    return told


def mark_named(marks, name):
    for mark in marks:
        if mark[0] == name:
            return mark
    raise NoName(f"{name!r} has no mark")


def marked(book, name):
    mark = mark_named(marks_of(book), name)
    return text_of(book)[mark[1]:mark[2]]


def names_holding(marks, begin, end):
    return [mark[0] for mark in marks if mark[1] <= begin and end <= mark[2]]


def names_at(book, place):
    if not 0 <= place < len(text_of(book)):
        raise NoPlace(f"no sign is behind the place {place!r}")
    return names_holding(marks_of(book), place, place + 1)


def drawn_at(marks, place):
    ended = ["<" + mark[0] for mark in marks if mark[1] < place and mark[2] == place]
    empty = [mark[0] + "|" for mark in marks if mark[1] == place and mark[2] == place]
    begun = [mark[0] + ">" for mark in marks if mark[1] == place and mark[2] > place]
    return "".join(list(reversed(ended)) + empty + begun)


def drawn(book):
    text = text_of(book)
    marks = marks_of(book)
    return "".join([drawn_at(marks, place) + text[place:place + 1] for place in range(len(text) + 1)])


def hand_marks(book):
    names = {}
    for deed in mark_deeds(book):
        names.setdefault(deed[1][1], []).append(deed[2])
    return [(hand, names[hand]) for hand in sorted(names)]
