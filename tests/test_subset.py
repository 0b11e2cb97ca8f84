"""Rules of the Python subset that can be seen in the files of the package."""

import ast
import pathlib
import re
import unittest

TOP = pathlib.Path(__file__).resolve().parent.parent
PACKAGE = TOP / "typedahead"
LIBRARY = ("__future__", "heapq", "math", "itertools")
NAME = re.compile(r"\A(_?[A-Za-z][A-Za-z0-9_]*|__(init|eq|len)__)\Z")


def package_files():
    return sorted(path for path in PACKAGE.rglob("*") if path.is_file() and "__pycache__" not in path.parts)


def trees():
    return [(path, ast.parse(path.read_text(encoding="ascii"))) for path in package_files()]


class TestSubset(unittest.TestCase):
    def test_one_folder_of_plain_files(self):
        names = [path.name for path in package_files()]
        self.assertIn("__init__.py", names)
        for path in package_files():
            self.assertEqual(path.parent, PACKAGE)
            self.assertRegex(path.name, r"\A(__init__|__main__|[a-z][a-z0-9_]*)\.py\Z")
            self.assertFalse(path.name.startswith("test"))

    def test_signs_lines_and_sizes(self):
        for path in package_files():
            text = path.read_bytes().decode("ascii")
            self.assertTrue(all(sign == "\n" or " " <= sign <= "~" for sign in text), path)
            lines = text.split("\n")
            self.assertLessEqual(len(lines), 399, path)
            self.assertLessEqual(max(len(line) for line in lines), 120, path)

    def test_function_sizes(self):
        for path, tree in trees():
            for node in ast.walk(tree):
                if isinstance(node, ast.FunctionDef):
                    self.assertLessEqual(node.end_lineno - node.lineno + 1, 40, (path, node.name))

    def test_no_percent_in_a_string(self):
        for path, tree in trees():
            for node in ast.walk(tree):
                if isinstance(node, ast.Constant) and isinstance(node.value, (str, bytes)):
                    percent = "%" if isinstance(node.value, str) else b"%"
                    self.assertNotIn(percent, node.value, path)

    def test_imports(self):
        for path, tree in trees():
            for node in ast.walk(tree):
                self.assertNotIsInstance(node, ast.Import, path)
                if isinstance(node, ast.ImportFrom):
                    self.assertEqual(node.level, 0, path)
                    self.assertIn(node, tree.body, path)
                    self.assertNotIn("*", [name.name for name in node.names], path)
                    if node.module not in LIBRARY:
                        self.defined(node)

    def defined(self, node):
        folder, _, name = node.module.partition(".")
        self.assertEqual(folder, "typedahead")
        tree = ast.parse((PACKAGE / (name + ".py")).read_text(encoding="ascii"))
        bound = {part.name for part in tree.body if isinstance(part, (ast.FunctionDef, ast.ClassDef))}
        bound |= {goal.id for part in tree.body if isinstance(part, ast.Assign) for goal in part.targets}
        self.assertLessEqual({name.name for name in node.names}, bound)

    def test_module_level(self):
        plain = (ast.ImportFrom, ast.FunctionDef, ast.ClassDef, ast.Assign)
        for path, tree in trees():
            for node in tree.body:
                docstring = node is tree.body[0] and isinstance(node, ast.Expr)
                self.assertTrue(docstring or isinstance(node, plain), (path, node.lineno))

    def test_statements_and_names(self):
        barred = (ast.Global, ast.AsyncFunctionDef, ast.Await, ast.Div, ast.Import)
        for path, tree in trees():
            for node in ast.walk(tree):
                self.assertNotIsInstance(node, barred, path)
                if isinstance(node, (ast.FunctionDef, ast.ClassDef)):
                    self.assertRegex(node.name, NAME, path)
                if isinstance(node, ast.Constant):
                    self.assertNotIsInstance(node.value, (float, complex), path)


if __name__ == "__main__":
    unittest.main()
