"""What changes from a book to one with more deeds: of its text, and of its marks."""

from staymark.marks import marks_of
from staymark.orders import presence_in, shown_in


def grown(change, sign, there):
    if there:
        return (change[0], change[1], change[2] + sign)
    return (change[0], change[1] + sign, change[2])


def changes_between(less, more):
    then = dict([(pair[0], True) for pair in shown_in(less)])
    told = []
    touching = False
    # With all changes ahead done, the text of less begins like that of more: so the signs of more are counted.
    place = 0
    for step in presence_in(more):
        pair = step[0]
        there = step[1]
        was = pair[0] in then
        if was and there:
            touching = False
        elif was or there:
            if not touching:
                told.append((place, "", ""))
            touching = True
            told[-1] = grown(told[-1], pair[1], there)
        if there:
            place = place + 1
    return told


def changed_by(text, changes):
    changed = text
    for change in changes:
        place = change[0]
        changed = changed[:place] + change[2] + changed[place + len(change[1]):]
    return changed


def stretches_by_names(book):
    return dict([(mark[0], (mark[1], mark[2])) for mark in marks_of(book)])


def moved_marks(less, more):
    then = stretches_by_names(less)
    now = stretches_by_names(more)
    told = []
    for name in sorted(set(then) | set(now)):
        if then.get(name) != now.get(name):
            told.append((name, then.get(name), now.get(name)))
    return told
