"""The examples of README.md: each row tells what stands behind it."""

import pathlib
import re
import unittest

README = pathlib.Path(__file__).resolve().parent.parent / "README.md"


class ReadmeTest(unittest.TestCase):
    def test_each_example(self):
        blocks = re.findall(r"```python\n(.*?)```", README.read_text(), re.S)
        self.assertTrue(blocks)
        names = {}
        for row in "".join(blocks).split("\n"):
            asked, told, due = row.partition("  # ")
            if told:
                with self.subTest(row=row):
                    self.assertEqual(eval(asked, names), eval(due, names))
            else:
                exec(row, names)


if __name__ == "__main__":
    unittest.main()
