"""What README.md shows is what the program tells."""

import pathlib
import re
import unittest

README = pathlib.Path(__file__).resolve().parent.parent / "README.md"


class Readme(unittest.TestCase):
    def test_example(self):
        code = re.search(r"```python\n(.*?)```", README.read_text(encoding="utf-8"), re.S).group(1)
        names = {}
        exec(code, names)
        shown = re.findall(r"^(\S.*?) +# (.*)$", code, re.M)
        self.assertGreater(len(shown), 5)
        for expression, told in shown:
            with self.subTest(expression=expression):
                self.assertEqual(repr(eval(expression, names)), told)


if __name__ == "__main__":
    unittest.main()
