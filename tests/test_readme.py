"""The examples of README.md tell what the program tells."""

import re
import unittest
from pathlib import Path

README = Path(__file__).resolve().parent.parent / "README.md"


class Examples(unittest.TestCase):

    def test_each_row(self):
        tried = 0
        for block in re.findall(r"```python\n(.*?)```", README.read_text(encoding="utf-8"), re.S):
            names = {}
            for row in block.splitlines():
                call, told, wanted = row.partition("  # ")
                if told:
                    self.assertEqual(repr(eval(call, names)), wanted.strip(), row)
                    tried += 1
                else:
                    exec(row, names)
        self.assertGreater(tried, 20)


if __name__ == "__main__":
    unittest.main()
