"""Books that the tests share, and a second way to tell what the program tells."""

import random

from staymark.albums import Album

SIGNS = "".join(chr(code) for code in range(ord(" "), ord("~") + 1))
NAMES = ["x", "yy", "k"]
ALL_WORDS = ["add", "add", "add", "drop", "mark", "unmark", "undo", "undo"]
MARK_WORDS = ["add", "drop", "mark", "mark", "mark", "mark", "unmark", "undo"]


def add(time, hand, behind, text):
    return ("add", (time, hand), behind, text)


def drop(time, hand, *signs):
    return ("drop", (time, hand), signs)


def mark(time, hand, name, start, end):
    return ("mark", (time, hand), name, start, end)


def unmark(time, hand, name):
    return ("unmark", (time, hand), name)


def undo(time, hand, other):
    return ("undo", (time, hand), other)


def sign(time, hand, number):
    return ((time, hand), number)


def spread(text, *stretches):
    """A book of this text, with marks (name, begin, end) that hold on to what is within them, or to nothing."""
    deeds = [add(1, "a", None, text)] if text else []
    for number, (name, begin, end) in enumerate(stretches):
        start = (sign(1, "a", begin) if begin < len(text) else None, "r")
        stop = (sign(1, "a", end - 1) if end > 0 else None, "l")
        deeds.append(mark(number + 2, "a", name, start, stop))
    return tuple(deeds)


def named_by(deed):
    if deed[0] == "undo":
        return [deed[2]]
    if deed[0] == "add":
        signs = [deed[2]]
    elif deed[0] == "drop":
        signs = deed[2]
    elif deed[0] == "mark":
        signs = [deed[3][0], deed[4][0]]
    else:
        signs = []
    return [one[0] for one in signs if one is not None]


def random_deed(source, deed_id, older, words):
    """A deed of this id that names some of the older ones."""
    signs = [(deed[1], number) for deed in older if deed[0] == "add" for number in range(len(deed[3]))]
    word = source.choice(words)
    if word == "drop" and signs:
        return (word, deed_id, tuple(sorted(source.sample(signs, source.randint(1, min(4, len(signs)))))))
    if word == "mark":
        anchors = [(source.choice(signs + [None]), source.choice("lr")) for _ in range(2)]
        return (word, deed_id, source.choice(NAMES), anchors[0], anchors[1])
    if word == "unmark":
        return (word, deed_id, source.choice(NAMES))
    if word == "undo" and older:
        return (word, deed_id, source.choice(older)[1])
    text = "".join(source.choice(SIGNS) for _ in range(source.randint(1, 4)))
    return ("add", deed_id, source.choice(signs + [None]), text)


def random_book(source, many, words):
    """So many deeds, several of one time among them."""
    ids = sorted(source.sample([(time, hand) for time in range(1, many + 1) for hand in "abc"], many))
    deeds = []
    for deed_id in ids:
        older = [deed for deed in deeds if deed[1][0] < deed_id[0]]
        deeds.append(random_deed(source, deed_id, older, words))
    return tuple(deeds)


def random_books(many):
    """The same books each time: a test that fails is to fail again."""
    source = random.Random(7)
    return [random_book(source, source.randint(0, 14), ALL_WORDS) for _ in range(many)]


def random_marked_books(many):
    """Books with more marks than others have, of few names, so that they meet."""
    source = random.Random(8)
    return [random_book(source, source.randint(0, 18), MARK_WORDS) for _ in range(many)]


def random_part(source, book):
    """Some deeds of the book that are a book by themselves."""
    kept = {}
    for deed in book:
        if source.random() < 0.75 and all(named in kept for named in named_by(deed)):
            kept[deed[1]] = deed
    return tuple(kept.values())


def order_by_insertion(book):
    """By rising ids each text is put right behind its sign: so greater ids come first."""
    order = []
    for deed in book:
        if deed[0] != "add":
            continue
        ids = [one[0] for one in order]
        at = 0 if deed[2] is None else ids.index(deed[2]) + 1
        order[at:at] = [((deed[1], number), one) for number, one in enumerate(deed[3])]
    return order


def effect_by_words(book, deed_id):
    """Word for word as the document says it, however often it asks again."""
    undos = [deed for deed in book if deed[0] == "undo" and deed[2] == deed_id]
    return not any(effect_by_words(book, deed[1]) for deed in undos)


def there_by_words(book, sign_id):
    drops = [deed for deed in book if deed[0] == "drop" and sign_id in deed[2]]
    dropped = any(effect_by_words(book, deed[1]) for deed in drops)
    return effect_by_words(book, sign_id[0]) and not dropped


def leaning_by_words(book, deed_id):
    found = set()
    for deed in book:
        if deed_id in named_by(deed):
            found.add(deed[1])
            found.update(leaning_by_words(book, deed[1]))
    return sorted(found)


def shown_by_words(book):
    return [pair for pair in order_by_insertion(book) if there_by_words(book, pair[0])]


def text_by_words(book):
    return "".join(pair[1] for pair in shown_by_words(book))


def place_by_words(book, anchor):
    there = [(pair[0], there_by_words(book, pair[0])) for pair in order_by_insertion(book)]
    if anchor[0] is None:
        return 0 if anchor[1] == "l" else sum(shown for _, shown in there)
    at = [one for one, _ in there].index(anchor[0])
    upto = at + 1 if anchor[1] == "l" else at
    return sum(shown for _, shown in there[:upto])


def mark_deeds_by_words(book):
    """By rising names, the deeds by which the marks are."""
    told = []
    for name in sorted({deed[2] for deed in book if deed[0] in ("mark", "unmark")}):
        of_name = [deed for deed in book if deed[0] in ("mark", "unmark") and deed[2] == name]
        in_effect = [deed for deed in of_name if effect_by_words(book, deed[1])]
        if in_effect and max(in_effect, key=lambda deed: deed[1])[0] == "mark":
            told.append(max(in_effect, key=lambda deed: deed[1]))
    return told


def marks_by_words(book):
    told = []
    for deed in mark_deeds_by_words(book):
        begin, end = place_by_words(book, deed[3]), place_by_words(book, deed[4])
        told.append((deed[2], begin, begin if begin > end else end))
    return told


def signs_held(mark):
    """The places of a mark's signs."""
    return set(range(mark[1], mark[2]))


def album_of(**books):
    """An album that keeps these books, step by step in their order."""
    album = Album()
    for name, book in books.items():
        album.keep(name, book)
    return album


def books_in(album):
    return {name: album.fetch(name) for name in album.names()}


def kinds_of(thing):
    """The thing with the class of each of its parts, so that a list is not taken for a tuple."""
    if isinstance(thing, (list, tuple)):
        return (thing.__class__, [kinds_of(part) for part in thing])
    return (thing.__class__, thing)
