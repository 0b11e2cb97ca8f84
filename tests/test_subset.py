"""Rules of the Python subset that can be seen in the files of the package."""

import ast
import builtins
import pathlib
import re
import unittest

TOP = pathlib.Path(__file__).resolve().parent.parent
PACKAGE = TOP / "typedahead"
LIBRARY = ("__future__", "heapq", "math", "itertools")
NAME = re.compile(r"\A(_?[A-Za-z][A-Za-z0-9_]*|__(init|eq|len)__)\Z")

BUILTINS = set("""len range enumerate zip min max sum abs sorted reversed int str bool bytes list tuple dict set frozenset
isinstance ord repr any all divmod iter next Exception ValueError TypeError KeyError IndexError LookupError
ZeroDivisionError ArithmeticError OverflowError RuntimeError NotImplementedError""".split())
METHODS = set("""append clear copy count endswith extend find get index insert isalnum isalpha isdigit islower isspace
isupper items join keys ljust lower lstrip partition pop remove replace reverse rfind rjust rpartition rsplit rstrip
setdefault split splitlines startswith strip update upper values zfill bit_length""".split())
BARRED = set("""type typing enum Enum Flag Generic Protocol ABC namedtuple NamedTuple TypedDict register mro elements open
input law version_info eval exec getattr setattr hasattr globals locals vars dir id""".split())


def package_files():
    return sorted(path for path in PACKAGE.rglob("*") if path.is_file() and "__pycache__" not in path.parts)


def trees():
    return [(path, ast.parse(path.read_text(encoding="ascii"))) for path in package_files()]


class TestSubset(unittest.TestCase):
    def test_one_folder_of_plain_files(self):
        names = [path.name for path in package_files()]
        self.assertIn("__init__.py", names)
        for path in package_files():
            self.assertEqual(path.parent, PACKAGE)
            self.assertRegex(path.name, r"\A(__init__|__main__|[a-z][a-z0-9_]*)\.py\Z")
            self.assertFalse(path.name.startswith("test"))

    def test_signs_lines_and_sizes(self):
        for path in package_files():
            text = path.read_bytes().decode("ascii")
            self.assertTrue(all(sign == "\n" or " " <= sign <= "~" for sign in text), path)
            lines = text.split("\n")
            self.assertLessEqual(len(lines), 399, path)
            self.assertLessEqual(max(len(line) for line in lines), 120, path)

    def test_function_sizes(self):
        for path, tree in trees():
            for node in ast.walk(tree):
                if isinstance(node, ast.FunctionDef):
                    self.assertLessEqual(node.end_lineno - node.lineno + 1, 40, (path, node.name))

    def test_no_percent_in_a_string(self):
        for path, tree in trees():
            for node in ast.walk(tree):
                if isinstance(node, ast.Constant) and isinstance(node.value, (str, bytes)):
                    percent = "%" if isinstance(node.value, str) else b"%"
                    self.assertNotIn(percent, node.value, path)

    def test_imports(self):
        for path, tree in trees():
            for node in ast.walk(tree):
                self.assertNotIsInstance(node, ast.Import, path)
                if isinstance(node, ast.ImportFrom):
                    self.assertEqual(node.level, 0, path)
                    self.assertIn(node, tree.body, path)
                    self.assertNotIn("*", [name.name for name in node.names], path)
                    if node.module not in LIBRARY:
                        self.defined(node)

    def defined(self, node):
        folder, _, name = node.module.partition(".")
        self.assertEqual(folder, "typedahead")
        tree = ast.parse((PACKAGE / (name + ".py")).read_text(encoding="ascii"))
        bound = {part.name for part in tree.body if isinstance(part, (ast.FunctionDef, ast.ClassDef))}
        bound |= {goal.id for part in tree.body if isinstance(part, ast.Assign) for goal in part.targets}
        self.assertLessEqual({name.name for name in node.names}, bound)

    def test_module_level(self):
        plain = (ast.ImportFrom, ast.FunctionDef, ast.ClassDef, ast.Assign)
        for path, tree in trees():
            for node in tree.body:
                docstring = node is tree.body[0] and isinstance(node, ast.Expr)
                self.assertTrue(docstring or isinstance(node, plain), (path, node.lineno))

    def test_statements_and_names(self):
        barred = (ast.Global, ast.AsyncFunctionDef, ast.Await, ast.Div, ast.Import)
        for path, tree in trees():
            for node in ast.walk(tree):
                self.assertNotIsInstance(node, barred, path)
                if isinstance(node, (ast.FunctionDef, ast.ClassDef)):
                    self.assertRegex(node.name, NAME, path)
                if isinstance(node, ast.Constant):
                    self.assertNotIsInstance(node.value, (float, complex), path)

    def test_builtins(self):
        for path, tree in trees():
            for node in ast.walk(tree):
                if isinstance(node, ast.Name) and hasattr(builtins, node.id):
                    self.assertIsInstance(node.ctx, ast.Load, (path, node.lineno))
                    self.assertIn(node.id, BUILTINS, (path, node.lineno))

    def test_methods(self):
        own = {node.name for _, tree in trees() for node in ast.walk(tree) if isinstance(node, ast.FunctionDef)}
        for path, tree in trees():
            for node in ast.walk(tree):
                if isinstance(node, ast.Call) and isinstance(node.func, ast.Attribute):
                    self.assertIn(node.func.attr, METHODS | own, (path, node.lineno))

    def test_barred_words(self):
        for path, tree in trees():
            for node in ast.walk(tree):
                words = [getattr(node, field, None) for field in ("id", "attr", "arg", "name")]
                if isinstance(node, ast.Constant) and isinstance(node.value, str):
                    words += [] if "\n" in node.value else re.findall("[A-Za-z_]+", node.value)
                self.assertFalse(BARRED.intersection(words), path)

    def test_names_have_one_meaning(self):
        for path, tree in trees():
            bound = {name.asname or name.name for node in tree.body if isinstance(node, ast.ImportFrom)
                     for name in node.names}
            bound |= {node.name for node in tree.body if isinstance(node, ast.ClassDef)}
            for node in ast.walk(tree):
                if isinstance(node, ast.arg):
                    self.assertNotIn(node.arg, bound | set(dir(builtins)), (path, node.lineno))
                if isinstance(node, ast.Name) and isinstance(node.ctx, ast.Store):
                    self.assertNotIn(node.id, bound, (path, node.lineno))
                if isinstance(node, (ast.FunctionDef, ast.ClassDef)) and node in tree.body:
                    self.assertFalse(hasattr(builtins, node.name), (path, node.name))

    def test_methods_and_attributes(self):
        for path, tree in trees():
            for node in tree.body:
                if isinstance(node, ast.ClassDef):
                    methods = [part.name for part in node.body if isinstance(part, ast.FunctionDef)]
                    stored = {part.attr for part in ast.walk(node)
                              if isinstance(part, ast.Attribute) and isinstance(part.ctx, ast.Store)}
                    self.assertEqual(len(methods), len(set(methods)), (path, node.name))
                    self.assertFalse(stored.intersection(methods), (path, node.name))

    def test_no_generators(self):
        barred = (ast.GeneratorExp, ast.Yield, ast.YieldFrom)
        for path, tree in trees():
            for node in ast.walk(tree):
                self.assertNotIsInstance(node, barred, path)

    def test_no_two_files_import_from_each_other(self):
        needs = {path.stem: {node.module.partition(".")[2] for node in tree.body if isinstance(node, ast.ImportFrom)
                             and node.module not in LIBRARY} for path, tree in trees()}
        while needs:
            free = [name for name, needed in needs.items() if not needed & set(needs)]
            self.assertTrue(free, needs)
            for name in free:
                del needs[name]


if __name__ == "__main__":
    unittest.main()
