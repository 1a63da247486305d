"""Books joined, what one lacks, what can come, and books made less."""

from staymark.deeds import by_ids, deeds_named, has_all_named
from staymark.errors import BadBook
from staymark.marks import marks_of
from staymark.orders import leaning_on, refuse_unless_deed, text_of


def put_together(known, deeds):
    together = dict(known)
    for deed in deeds:
        which = deed[1]
        if together.setdefault(which, deed) != deed:
            raise BadBook(f"there are unlike deeds of the id {which!r}")
    return together


def book_of(known):
    return tuple([known[which] for which in sorted(known)])


def joined(one, other):
    return book_of(put_together(by_ids(one), other))


def lacking(one, other):
    known = by_ids(one)
    return [deed for deed in other if deed[1] not in known]


def ready(book, deeds):
    known = by_ids(book)
    waiting = []
    # A deed has a greater id than all that it names: by rising ids, what can come at all comes ahead of it.
    for deed in lacking(book, book_of(put_together(known, deeds))):
        if has_all_named(known, deed):
            known[deed[1]] = deed
        else:
            waiting.append(deed)
    return (book_of(known), waiting)


def without(book, which):
    refuse_unless_deed(book, which)
    gone = dict([(leaning, True) for leaning in leaning_on(book, which)])
    return tuple([deed for deed in book if deed[1] != which and deed[1] not in gone])


def shown_by(book):
    return (text_of(book), marks_of(book))


def is_named(book, which):
    return any([which in deeds_named(deed) for deed in book])


def trimmed_once(book, shown):
    left = book
    for deed in reversed(book):
        if not is_named(left, deed[1]):
            less = tuple([other for other in left if other[1] != deed[1]])
            if shown_by(less) == shown:
                left = less
    return left


def trimmed(book):
    shown = shown_by(book)
    left = trimmed_once(book, shown)
    many = len(book)
    while len(left) < many:
        many = len(left)
        left = trimmed_once(left, shown)
    return left
