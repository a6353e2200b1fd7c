"""What README.md shows is so."""

import pathlib
import re
import unittest

README = pathlib.Path(__file__).resolve().parent.parent / "README.md"


class Readme(unittest.TestCase):
    def test_examples(self):
        known = {}
        shown = 0
        for block in re.findall(r"```python\n(.*?)```", README.read_text(), re.DOTALL):
            exec(block, known)
            for line in block.split("\n"):
                code, mark, right = line.partition("  # ")
                if mark:
                    shown += 1
                    self.assertEqual(eval(re.sub(r"^\w+ = ", "", code.strip()), known), eval(right), line)
        self.assertGreater(shown, 5)
