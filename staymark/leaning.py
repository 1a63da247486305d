"""How deeds lean on one another: how deep they are, and all that they name."""

from staymark.deeds import deeds_named
from staymark.orders import refuse_unless_deed


def depths_in(book):
    # A deed stands behind all that it names, so their depths are known by then.
    depths = {}
    for deed in book:
        depths[deed[1]] = max([depths[named] + 1 for named in deeds_named(deed)], default=0)
    return depths


def depth(book, which):
    refuse_unless_deed(book, which)
    return depths_in(book)[which]


def layers(book):
    depths = depths_in(book)
    told = []
    for which in depths:
        # The first deed of a depth stands behind one that is by 1 less deep, so no depth is passed over.
        if depths[which] == len(told):
            told.append([])
        told[depths[which]].append(which)
    return told


def named_in(book, which):
    refuse_unless_deed(book, which)
    reached = {which: True}
    for deed in reversed(book):
        if deed[1] in reached:
            for named in deeds_named(deed):
                reached[named] = True
    return [deed[1] for deed in book if deed[1] in reached and deed[1] != which]
