"""The rules on files and sizes that a machine can look up: ../shared/LANGUAGE.md L1, L2, L5, L7, L10, L14, L16."""

import ast
import pathlib
import re
import unittest

PACKAGE = pathlib.Path(__file__).resolve().parent.parent / "nestsums"
FILES = sorted(PACKAGE.glob("*.py"))
FUNCTIONS = (ast.FunctionDef, ast.Lambda)
BARRED = (
    ast.Import,
    ast.Global,
    ast.AsyncFunctionDef,
    ast.Div,
    ast.GeneratorExp,
)
METHODS = {"__init__", "__eq__", "__len__"}
LIBRARY = {"heapq", "math", "itertools", "collections"}


class Layout(unittest.TestCase):
    def test_the_folder_holds_plainly_named_files_alone(self):
        found = [path.name for path in PACKAGE.iterdir() if path.name != "__pycache__"]
        self.assertIn("__init__.py", found)
        for name in found:
            self.assertTrue(re.fullmatch(r"__init__\.py|[a-z][a-z0-9_]*\.py", name), name)

    def test_lines_and_characters(self):
        for path in FILES:
            text = path.read_text(encoding="utf-8")
            lines = text.splitlines()
            self.assertLessEqual(len(lines), 399, path)
            for number, line in enumerate(lines, 1):
                self.assertLessEqual(len(line), 120, (path, number))
            self.assertTrue(all(sign == "\n" or " " <= sign <= "~" for sign in text), path)

    def test_functions_have_at_most_40_lines(self):
        for path in FILES:
            for node in ast.walk(ast.parse(path.read_text())):
                if isinstance(node, FUNCTIONS):
                    self.assertLessEqual(node.end_lineno - node.lineno + 1, 40, (path, node.lineno))

    def test_imports_name_files_of_the_package_or_the_library_of_l2(self):
        for path in FILES:
            for node in ast.walk(ast.parse(path.read_text())):
                if isinstance(node, ast.ImportFrom):
                    self.assertEqual(node.level, 0, (path, node.lineno))
                    known = node.module.startswith("nestsums.") or node.module in LIBRARY
                    self.assertTrue(known, (path, node.lineno))

    def test_no_two_files_import_from_each_other(self):
        above = {}
        for path in FILES:
            nodes = [node for node in ast.walk(ast.parse(path.read_text())) if isinstance(node, ast.ImportFrom)]
            above["nestsums." + path.stem] = {node.module for node in nodes if node.module.startswith("nestsums.")}
        # Take away, again and again, the files that import from none that is left.
        while above:
            free = [name for name, needed in above.items() if not needed & set(above)]
            self.assertTrue(free, above)
            for name in free:
                del above[name]

    def test_barred_parts_do_not_occur(self):
        for path in FILES:
            for node in ast.walk(ast.parse(path.read_text())):
                self.assertNotIsInstance(node, BARRED, (path, getattr(node, "lineno", 0)))
                if isinstance(node, ast.FunctionDef) and node.name.startswith("__"):
                    self.assertIn(node.name, METHODS, (path, node.lineno))


if __name__ == "__main__":
    unittest.main()
