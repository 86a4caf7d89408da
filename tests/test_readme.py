"""The examples in README.md answer what stands beside them."""

import ast
import pathlib
import re
import unittest

README = pathlib.Path(__file__).resolve().parent.parent / "README.md"
BLOCKS = re.findall(r"```python\n(.*?)```", README.read_text(encoding="utf-8"), re.DOTALL)


class Examples(unittest.TestCase):
    def test_each_row(self):
        self.assertTrue(BLOCKS)
        for block in BLOCKS:
            names = {}
            for row in block.splitlines():
                code, mark, answer = row.partition("    # ")
                with self.subTest(row):
                    if answer:
                        self.assertEqual(eval(code, names), ast.literal_eval(answer))
                    else:
                        exec(code, names)


if __name__ == "__main__":
    unittest.main()
