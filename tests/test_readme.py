"""What README.md shows is what the program tells."""

import ast
import pathlib
import re
import unittest

README = pathlib.Path(__file__).resolve().parent.parent / "README.md"


class Readme(unittest.TestCase):
    def test_example(self):
        code = "\n".join(re.findall(r"```python\n(.*?)```", README.read_text(encoding="utf-8"), re.S))
        rows = code.split("\n")
        names, shown = {}, 0
        # Row by row, since hands are not the same behind what they do.
        for node in ast.parse(code).body:
            told = rows[node.end_lineno - 1].partition(" # ")[2]
            source = ast.get_source_segment(code, node)
            if not told:
                exec(source, names)
                continue
            shown += 1
            with self.subTest(source=source):
                self.assertEqual(repr(eval(source, names)), told)
        self.assertGreater(shown, 20)


if __name__ == "__main__":
    unittest.main()
