"""How a book was at earlier times, who added a sign, what was lost, and what a hand did."""

from staymark.errors import NoPlace
from staymark.orders import shown_in, text_of, undone_in


def as_of(book, time):
    return tuple([deed for deed in book if deed[1][0] <= time])


def times_of(book):
    return sorted(set([0] + [deed[1][0] for deed in book]))


def text_at(book, time):
    return text_of(as_of(book, time))


def texts_of(book):
    told = []
    for time in times_of(book):
        # The text stays as it was for as long as no deed comes.
        while len(told) < time:
            told.append(told[-1])
        told.append(text_at(book, time))
    return told


def age_at(book, place):
    shown = shown_in(book)
    if not 0 <= place < len(shown):
        raise NoPlace(f"no sign is behind the place {place!r}")
    return shown[place][0][0]


def first_seen(book, text):
    for time in times_of(book):
        if text in text_at(book, time):
            return time
    return None


def lost(book):
    undone = undone_in(book)
    shown = dict([(pair[0][0], True) for pair in shown_in(book)])
    adds = [deed for deed in book if deed[0] == "add" and deed[1] not in undone]
    return [(deed[1], deed[3]) for deed in adds if deed[1] not in shown]


def by_hand(book, hand):
    undone = undone_in(book)
    words = {}
    for deed in book:
        if deed[1][1] == hand:
            words.setdefault(deed[0], []).append(deed[1] not in undone)
    return [(word, len(words[word]), words[word].count(True)) for word in sorted(words)]
