"""What README.md shows is so."""

import ast
import pathlib
import re
import unittest

README = pathlib.Path(__file__).resolve().parent.parent / "README.md"


class Readme(unittest.TestCase):
    def test_examples(self):
        known = {}
        shown = 0
        for block in re.findall(r"```python\n(.*?)```", README.read_text(), re.DOTALL):
            lines = block.split("\n")
            # each is done once, since it may change what is there
            for node in ast.parse(block).body:
                code = "\n".join(lines[node.lineno - 1:node.end_lineno])
                line, mark, right = lines[node.end_lineno - 1].partition("  # ")
                if isinstance(node, ast.Expr):
                    told = eval(code.strip(), known)
                else:
                    exec(code, known)
                    told = known[node.targets[0].id] if mark else None
                if mark:
                    shown += 1
                    self.assertEqual(told, eval(right), line)
        self.assertGreater(shown, 30)


if __name__ == "__main__":
    unittest.main()
