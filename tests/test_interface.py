"""The interface, row by row: each name is there, and takes so many arguments."""

import importlib
import inspect
import unittest

FUNCTIONS = {
    "deeds": {"is_deed": 1, "is_book": 1},
    "orders": {"signs_of": 1, "in_effect": 2, "text_of": 1, "is_there": 2, "authors_of": 1, "leaning_on": 2},
    "marks": {"place_of": 2, "anchor_at": 3, "marks_of": 1, "marked": 2, "names_at": 2, "drawn": 1, "hand_marks": 1},
    "stretches": {"pieces": 1, "bare": 1, "crossing": 1, "inner_of": 2, "widest": 1},
    "joining": {"joined": 2, "lacking": 2, "ready": 2, "without": 2, "trimmed": 1},
    "hands": {"Hand": 1, "met": 2},
    "changes": {"changes_between": 2, "changed_by": 2, "moved_marks": 2},
    "history": {"as_of": 2, "texts_of": 1, "age_at": 2, "first_seen": 2, "lost": 1, "by_hand": 2},
    "writing": {"written": 1},
    "reading": {"read": 1},
    "leaning": {"depth": 2, "layers": 1, "named_in": 2},
    "clocks": {"clock_of": 1, "newer": 2, "later_clock": 2, "kept_to": 2},
    "albums": {"Album": 0},
    "albumtexts": {"album_text": 1, "read_album": 1},
}
METHODS = {
    ("hands", "Hand", "a"): {"add": 2, "drop": 2, "mark": 4, "unmark": 1, "undo": 0, "redo": 0, "take": 1, "become": 1,
                             "known": 0, "text": 0},
    ("albums", "Album"): {"keep": 2, "fetch": 1, "forget": 1, "join_in": 2, "names": 0, "back": 0, "forth": 0,
                          "counts": 0, "twin": 0},
}


def from_file(name, thing):
    return getattr(importlib.import_module("staymark." + name), thing)


class Interface(unittest.TestCase):
    def check(self, called, many):
        """None of the arguments can be left out, and no other is taken."""
        parameters = inspect.signature(called).parameters.values()
        self.assertEqual(len(parameters), many)
        self.assertTrue(all(one.default is one.empty for one in parameters))

    def test_functions_and_classes(self):
        for name, told in FUNCTIONS.items():
            for thing, many in told.items():
                with self.subTest(file=name, thing=thing):
                    self.check(from_file(name, thing), many)

    def test_methods(self):
        for (name, kind, *arguments), told in METHODS.items():
            one = from_file(name, kind)(*arguments)
            for method, many in told.items():
                with self.subTest(file=name, method=method):
                    self.check(getattr(one, method), many)


if __name__ == "__main__":
    unittest.main()
