"""The order of all signs, what is in effect, the text, and what leans on a deed."""

from staymark.deeds import deeds_named, signs_added
from staymark.errors import NoDeed, NoSign


def adds_behind(book):
    behind = {}
    for deed in book:
        # A text without signs has no first one to stand behind another.
        if signs_added(deed) > 0:
            behind.setdefault(deed[2], []).append(deed)
    return behind


def signs_of(book):
    behind = adds_behind(book)
    # The last one put down is taken up first: so adds go down by rising ids,
    # and the rest of a text goes down ahead of what others added into it.
    waiting = [(deed, 0) for deed in behind.get(None, [])]
    told = []
    while waiting:
        step = waiting.pop()
        deed = step[0]
        number = step[1]
        sign = (deed[1], number)
        told.append((sign, deed[3][number]))
        if number + 1 < len(deed[3]):
            waiting.append((deed, number + 1))
        waiting.extend([(other, 0) for other in behind.get(sign, [])])
    return told


def undone_in(book):
    # An undo names an earlier deed: going from the last deed to the first,
    # it is settled whether an undo is in effect before it counts.
    undone = {}
    for deed in reversed(book):
        if deed[0] == "undo" and deed[1] not in undone:
            undone[deed[2]] = True
    return undone


def refuse_unless_deed(book, which):
    if which not in [deed[1] for deed in book]:
        raise NoDeed(f"the book has no deed {which!r}")


def in_effect(book, which):
    refuse_unless_deed(book, which)
    return which not in undone_in(book)


def dropped_in(book, undone):
    dropped = {}
    for deed in book:
        if deed[0] == "drop" and deed[1] not in undone:
            for sign in deed[2]:
                dropped[sign] = True
    return dropped


def presence_in(book):
    undone = undone_in(book)
    dropped = dropped_in(book, undone)
    told = []
    for pair in signs_of(book):
        told.append((pair, pair[0][0] not in undone and pair[0] not in dropped))
    return told


def shown_in(book):
    return [step[0] for step in presence_in(book) if step[1]]


def text_of(book):
    return "".join([pair[1] for pair in shown_in(book)])


def has_sign(book, sign):
    for deed in book:
        if deed[1] == sign[0]:
            return 0 <= sign[1] < signs_added(deed)
    return False


def is_there(book, sign):
    if not has_sign(book, sign):
        raise NoSign(f"the book has no sign {sign!r}")
    undone = undone_in(book)
    return sign[0] not in undone and sign not in dropped_in(book, undone)


def authors_of(book):
    told = []
    for pair in shown_in(book):
        hand = pair[0][0][1]
        if told and told[-1][0] == hand:
            told[-1] = (hand, told[-1][1] + pair[1])
        else:
            told.append((hand, pair[1]))
    return told


def leaning_on(book, which):
    # A deed stands behind all that it names, so one walk finds every step.
    leaning = {which: True}
    told = []
    for deed in book:
        if any([named in leaning for named in deeds_named(deed)]):
            leaning[deed[1]] = True
            told.append(deed[1])
    return told
