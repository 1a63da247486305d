"""An album, which keeps books by names, and goes back and forth step by step."""

from staymark.errors import NoName, NoneLeft
from staymark.joining import joined
from staymark.orders import text_of


class Album:
    def __init__(self):
        self.books = {}
        # Each a tuple (word, name, old, new): old and new are books, or None where the name has none.
        self.steps = []
        self.taken = []

    def put(self, name, book):
        if book is None:
            self.books.pop(name)
        else:
            self.books[name] = book

    def take_step(self, word, name, book):
        self.steps.append((word, name, self.books.get(name), book))
        self.taken = []
        self.put(name, book)

    def keep(self, name, book):
        self.take_step("keep", name, book)
        return text_of(book)

    def fetch(self, name):
        if name not in self.books:
            raise NoName(f"{name!r} has no book")
        return self.books[name]

    def forget(self, name):
        book = self.fetch(name)
        self.take_step("forget", name, None)
        return book

    def join_in(self, name, book):
        old = self.fetch(name)
        new = joined(old, book)
        self.take_step("join", name, new)
        return new != old

    def names(self):
        return sorted(self.books)

    def back(self):
        if not self.steps:
            raise NoneLeft("no step is left to be taken back")
        step = self.steps.pop()
        self.taken.append(step)
        self.put(step[1], step[2])
        return step[0]

    def forth(self):
        if not self.taken:
            raise NoneLeft("no step is left to be done again")
        step = self.taken.pop()
        self.steps.append(step)
        self.put(step[1], step[3])
        return step[0]

    def counts(self):
        return (len(self.steps), len(self.taken))

    def twin(self):
        other = Album()
        other.books = dict(self.books)
        other.steps = list(self.steps)
        other.taken = list(self.taken)
        return other
