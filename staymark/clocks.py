"""Clocks of hands: how far a book goes, what is newer, and books kept to a clock."""

from staymark.deeds import HANDS, has_all_named


def clock_of(book):
    # Ids rise, so the last time of a hand is its greatest.
    times = {}
    for deed in book:
        times[deed[1][1]] = deed[1][0]
    return tuple([times.get(hand, 0) for hand in HANDS])


def is_newer(deed, clock):
    return deed[1][0] > clock[HANDS.index(deed[1][1])]


def newer(book, clock):
    return [deed for deed in book if is_newer(deed, clock)]


def later_clock(one, other):
    return tuple([max(one[k], other[k]) for k in range(len(HANDS))])


def kept_to(book, clock):
    # A deed stands behind all that it names, so one walk leaves out every step.
    kept = {}
    for deed in book:
        if not is_newer(deed, clock) and has_all_named(kept, deed):
            kept[deed[1]] = deed
    return tuple(kept.values())
