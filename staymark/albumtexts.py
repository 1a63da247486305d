"""Albums written as texts, and read from them."""

from staymark.albums import Album
from staymark.deeds import is_name
from staymark.errors import NoText
from staymark.reading import read
from staymark.writing import written

AHEAD_OF_NAME = "= "


def album_text(album):
    return "".join([AHEAD_OF_NAME + name + "\n" + written(album.fetch(name)) for name in album.names()])


def named_parts(text):
    parts = []
    for line in text.split("\n")[:-1]:
        if line.startswith(AHEAD_OF_NAME):
            parts.append((line[len(AHEAD_OF_NAME):], []))
        elif parts:
            parts[-1][1].append(line + "\n")
        else:
            raise NoText(f"{line!r} stands ahead of the first name")
    return parts


def read_album(text):
    album = Album()
    for part in named_parts(text):
        name = part[0]
        if not is_name(name):
            raise NoText(f"{name!r} is no name")
        album.put(name, read("".join(part[1])))
    # Written again, it tells what was read too freely: names out of order or twice, a line feed lacking at the end.
    if album_text(album) != text:
        raise NoText("the text is not the writing of an album")
    return album
