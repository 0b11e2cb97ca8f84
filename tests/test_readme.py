"""What README.md shows is what the program tells."""

import ast
import pathlib
import re
import unittest

README = pathlib.Path(__file__).resolve().parent.parent / "README.md"


class TestReadme(unittest.TestCase):
    def test_each_line_that_shows_what_it_tells(self):
        met = 0
        for block in re.findall(r"```python\n(.*?)```", README.read_text(encoding="utf-8"), re.S):
            names, lines = {}, block.split("\n")
            for node in ast.parse(block).body:
                line = lines[node.end_lineno - 1]
                wanted = line.partition("  # ")[2].partition(", a held word")[0]
                if not wanted or ".." in wanted:
                    exec(compile(ast.Module([node], []), "README.md", "exec"), names)
                    continue
                met += 1
                told = eval(compile(ast.Expression(node.value), "README.md", "eval"), names)
                if isinstance(node, ast.Assign):
                    names[node.targets[0].id] = told
                self.assertEqual(told, ast.literal_eval(wanted.strip()), line)
        self.assertGreater(met, 40)


if __name__ == "__main__":
    unittest.main()
