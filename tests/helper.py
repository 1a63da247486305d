"""Books that the tests share, and a second way to tell what the program tells."""

import random

SIGNS = "".join(chr(code) for code in range(ord(" "), ord("~") + 1))


def add(time, hand, behind, text):
    return ("add", (time, hand), behind, text)


def drop(time, hand, *signs):
    return ("drop", (time, hand), signs)


def mark(time, hand, name, start, end):
    return ("mark", (time, hand), name, start, end)


def unmark(time, hand, name):
    return ("unmark", (time, hand), name)


def undo(time, hand, other):
    return ("undo", (time, hand), other)


def sign(time, hand, number):
    return ((time, hand), number)


def named_by(deed):
    if deed[0] == "undo":
        return [deed[2]]
    if deed[0] == "add":
        signs = [deed[2]]
    elif deed[0] == "drop":
        signs = deed[2]
    elif deed[0] == "mark":
        signs = [deed[3][0], deed[4][0]]
    else:
        signs = []
    return [one[0] for one in signs if one is not None]


def random_deed(source, deed_id, older):
    """A deed of this id that names some of the older ones."""
    signs = [(deed[1], number) for deed in older if deed[0] == "add" for number in range(len(deed[3]))]
    word = source.choice(["add", "add", "add", "drop", "mark", "unmark", "undo", "undo"])
    if word == "drop" and signs:
        return (word, deed_id, tuple(sorted(source.sample(signs, source.randint(1, min(4, len(signs)))))))
    if word == "mark":
        anchors = [(source.choice(signs + [None]), source.choice("lr")) for _ in range(2)]
        return (word, deed_id, source.choice(["x", "yy"]), anchors[0], anchors[1])
    if word == "unmark":
        return (word, deed_id, source.choice(["x", "yy"]))
    if word == "undo" and older:
        return (word, deed_id, source.choice(older)[1])
    text = "".join(source.choice(SIGNS) for _ in range(source.randint(1, 4)))
    return ("add", deed_id, source.choice(signs + [None]), text)


def random_book(source, many):
    """So many deeds, several of one time among them."""
    ids = sorted(source.sample([(time, hand) for time in range(1, many + 1) for hand in "abc"], many))
    deeds = []
    for deed_id in ids:
        older = [deed for deed in deeds if deed[1][0] < deed_id[0]]
        deeds.append(random_deed(source, deed_id, older))
    return tuple(deeds)


def random_books(many):
    """The same books each time: a test that fails is to fail again."""
    source = random.Random(7)
    return [random_book(source, source.randint(0, 14)) for _ in range(many)]


def random_part(source, book):
    """Some deeds of the book that are a book by themselves."""
    kept = {}
    for deed in book:
        if source.random() < 0.75 and all(named in kept for named in named_by(deed)):
            kept[deed[1]] = deed
    return tuple(kept.values())


def order_by_insertion(book):
    """By rising ids each text is put right behind its sign: so greater ids come first."""
    order = []
    for deed in book:
        if deed[0] != "add":
            continue
        ids = [one[0] for one in order]
        at = 0 if deed[2] is None else ids.index(deed[2]) + 1
        order[at:at] = [((deed[1], number), one) for number, one in enumerate(deed[3])]
    return order


def effect_by_words(book, deed_id):
    """Word for word as the document says it, however often it asks again."""
    undos = [deed for deed in book if deed[0] == "undo" and deed[2] == deed_id]
    return not any(effect_by_words(book, deed[1]) for deed in undos)


def there_by_words(book, sign_id):
    drops = [deed for deed in book if deed[0] == "drop" and sign_id in deed[2]]
    dropped = any(effect_by_words(book, deed[1]) for deed in drops)
    return effect_by_words(book, sign_id[0]) and not dropped


def leaning_by_words(book, deed_id):
    found = set()
    for deed in book:
        if deed_id in named_by(deed):
            found.add(deed[1])
            found.update(leaning_by_words(book, deed[1]))
    return sorted(found)
