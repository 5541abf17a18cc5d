"""The rules of the language that a short look at the files can check: files, imports, sizes, characters."""

import ast
import pathlib
import re
import unittest

PACKAGE = pathlib.Path(__file__).resolve().parent.parent / "tallerfirst"
LIBRARY = {"heapq", "math", "itertools", "collections", "__future__"}


def sources():
    return {path: path.read_text(encoding="utf-8") for path in sorted(PACKAGE.rglob("*.py"))}


class LanguageTest(unittest.TestCase):
    def test_folder_contains_only_modules(self):
        self.assertTrue((PACKAGE / "__init__.py").is_file())
        for path in PACKAGE.rglob("*"):
            if "__pycache__" not in path.parts and path.is_file():
                self.assertRegex(path.name, r"^(__init__|__main__|[a-z][a-z0-9_]*)\.py$")

    def test_sizes_and_characters(self):
        for path, text in sources().items():
            with self.subTest(path.name):
                self.assertIsNone(re.search(r"[^ -~\n]", text))
                self.assertLessEqual(len(text.splitlines()), 399)
                self.assertLessEqual(max(map(len, text.splitlines())), 120)
                for node in ast.walk(ast.parse(text)):
                    if isinstance(node, ast.FunctionDef):
                        self.assertLessEqual(node.end_lineno - node.lineno + 1, 40, node.name)

    def test_imports(self):
        for path, text in sources().items():
            for node in ast.walk(ast.parse(text)):
                with self.subTest(path.name):
                    self.assertNotIsInstance(node, (ast.Import, ast.Global) if path.stem != "__main__" else ast.Global)
                    if isinstance(node, ast.ImportFrom):
                        self.assertEqual(node.level, 0)
                        self.assertIn(node.module.split(".")[0], LIBRARY | {PACKAGE.name})
                        self.assertEqual([name.asname for name in node.names], [None] * len(node.names))

    def test_no_floats(self):
        for path, text in sources().items():
            for node in ast.walk(ast.parse(text)):
                with self.subTest(path.name):
                    self.assertNotIsInstance(node, ast.Div)
                    self.assertNotIsInstance(getattr(node, "value", None), (float, complex))


if __name__ == "__main__":
    unittest.main()
