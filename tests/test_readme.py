"""What README.md shows is what the program tells."""

import ast
import pathlib
import re
import unittest

README = pathlib.Path(__file__).resolve().parent.parent / "README.md"


class TestReadme(unittest.TestCase):
    def test_each_line_that_shows_what_it_tells(self):
        met = 0
        for block in re.findall(r"```python\n(.*?)```", README.read_text(encoding="utf-8"), re.S):
            names = {}
            exec(block, names)
            for line in block.split("\n"):
                asked, _, wanted = line.partition("  # ")
                if wanted and ".." not in wanted:
                    met += 1
                    asked = asked.partition(" = ")[2] if re.match(r"[a-z]+ = ", asked) else asked
                    wanted = wanted.partition(", a held word")[0]
                    self.assertEqual(eval(asked, names), ast.literal_eval(wanted), line)
        self.assertGreater(met, 15)


if __name__ == "__main__":
    unittest.main()
