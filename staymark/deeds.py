"""What is a deed, what is a book, and what a deed names."""

HANDS = "abcdefgh"
SIDES = "lr"
MOST_ADDED = 20
MOST_DROPPED = 400
LONGEST_NAME = 6


def is_whole(thing, least):
    # Python counts truths among the ints; the document does not.
    return isinstance(thing, int) and not isinstance(thing, bool) and thing >= least


def is_one_of(thing, letters):
    # Without the length, "" and "ab" would be found in the letters too.
    return isinstance(thing, str) and len(thing) == 1 and thing in letters


def is_text(thing, most, first, last):
    if not isinstance(thing, str) or not 1 <= len(thing) <= most:
        return False
    return all([first <= sign <= last for sign in thing])


def is_name(thing):
    return is_text(thing, LONGEST_NAME, "a", "z")


def is_added_text(thing):
    return is_text(thing, MOST_ADDED, " ", "~")


def is_pair(thing):
    return isinstance(thing, tuple) and len(thing) == 2


def is_deed_id(thing):
    return is_pair(thing) and is_whole(thing[0], 1) and is_one_of(thing[1], HANDS)


def is_sign_id(thing):
    return is_pair(thing) and is_deed_id(thing[0]) and is_whole(thing[1], 0)


def is_sign_id_or_none(thing):
    return thing is None or is_sign_id(thing)


def is_anchor(thing):
    return is_pair(thing) and is_sign_id_or_none(thing[0]) and is_one_of(thing[1], SIDES)


def is_rising(values):
    return all([values[k] < values[k + 1] for k in range(len(values) - 1)])


def is_dropped(thing):
    if not isinstance(thing, tuple) or not 1 <= len(thing) <= MOST_DROPPED:
        return False
    # Only what is known to be ids of signs can be set in an order.
    return all([is_sign_id(sign) for sign in thing]) and is_rising(thing)


def has_form(word, parts):
    if word == "add":
        return len(parts) == 2 and is_sign_id_or_none(parts[0]) and is_added_text(parts[1])
    if word == "drop":
        return len(parts) == 1 and is_dropped(parts[0])
    if word == "mark":
        return len(parts) == 3 and is_name(parts[0]) and is_anchor(parts[1]) and is_anchor(parts[2])
    if word == "unmark":
        return len(parts) == 1 and is_name(parts[0])
    if word == "undo":
        return len(parts) == 1 and is_deed_id(parts[0])
    return False


def signs_named(deed):
    named = []
    if deed[0] == "add":
        named = [deed[2]]
    elif deed[0] == "drop":
        named = list(deed[2])
    elif deed[0] == "mark":
        named = [deed[3][0], deed[4][0]]
    return [sign for sign in named if sign is not None]


def deeds_named(deed):
    if deed[0] == "undo":
        return [deed[2]]
    return [sign[0] for sign in signs_named(deed)]


def is_deed(thing):
    if not isinstance(thing, tuple) or len(thing) < 2 or not is_deed_id(thing[1]):
        return False
    if not has_form(thing[0], thing[2:]):
        return False
    return all([named[0] < thing[1][0] for named in deeds_named(thing)])


def signs_added(deed):
    return len(deed[3]) if deed[0] == "add" else 0


def by_ids(deeds):
    return dict([(deed[1], deed) for deed in deeds])


def has_all_named(known, deed):
    if not all([named in known for named in deeds_named(deed)]):
        return False
    return all([sign[1] < signs_added(known[sign[0]]) for sign in signs_named(deed)])


def is_book(thing):
    if not isinstance(thing, tuple) or not all([is_deed(deed) for deed in thing]):
        return False
    known = by_ids(thing)
    return is_rising([deed[1] for deed in thing]) and all([has_all_named(known, deed) for deed in thing])
