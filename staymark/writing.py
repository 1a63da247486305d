"""Books written as texts, a line for each deed."""

SIDE_SIGNS = {"l": "<", "r": ">"}


def written_id(which):
    return which[1] + str(which[0])


def written_sign(sign):
    if sign is None:
        return "-"
    return written_id(sign[0]) + "." + str(sign[1])


def written_anchor(anchor):
    return written_sign(anchor[0]) + SIDE_SIGNS[anchor[1]]


def words_behind(deed):
    if deed[0] == "add":
        return [written_sign(deed[2]), deed[3]]
    if deed[0] == "drop":
        return [written_sign(sign) for sign in deed[2]]
    if deed[0] == "mark":
        return [deed[2], written_anchor(deed[3]), written_anchor(deed[4])]
    if deed[0] == "unmark":
        return [deed[2]]
    return [written_id(deed[2])]


def written_deed(deed):
    return " ".join([written_id(deed[1]), deed[0]] + words_behind(deed)) + "\n"


def written(book):
    return "".join([written_deed(deed) for deed in book])
