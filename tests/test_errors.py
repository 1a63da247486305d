"""The refusals, as the interface lists them."""

import unittest

from staymark import errors

BELOW = ["NoSign", "NoPlace", "NoDeed", "NoName", "NoneLeft", "BadBook", "NoText"]


class Errors(unittest.TestCase):
    def test_mark_error_is_a_value_error(self):
        self.assertEqual(errors.MarkError.__bases__, (ValueError,))

    def test_each_stands_below_mark_error(self):
        for name in BELOW:
            with self.subTest(name=name):
                self.assertTrue(issubclass(getattr(errors, name), errors.MarkError))

    def test_none_stands_below_another(self):
        for name in BELOW:
            for other in BELOW:
                if name != other:
                    with self.subTest(name=name, other=other):
                        self.assertFalse(issubclass(getattr(errors, name), getattr(errors, other)))

    def test_each_can_be_raised_with_words(self):
        for name in BELOW + ["MarkError"]:
            with self.subTest(name=name):
                with self.assertRaisesRegex(getattr(errors, name), "some words"):
                    raise getattr(errors, name)("some words")


if __name__ == "__main__":
    unittest.main()
