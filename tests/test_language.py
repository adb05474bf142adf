"""Those rules of the language that can be seen in the text of the package files."""

import ast
import os
import unittest

import calledseats

FOLDER = os.path.dirname(calledseats.__file__)
LIBRARY = {"heapq", "math", "itertools", "collections", "__future__"}
BARRED_NAMES = {
    "open", "input", "eval", "exec", "type", "globals", "locals", "vars", "compile", "id", "hash", "float", "filter",
    "round", "slice", "callable", "dir", "help", "delattr", "memoryview", "bytearray",
}
BARRED_NODES = (ast.Global, ast.AsyncFunctionDef, ast.Await, ast.Div, ast.MatMult)
KINDS_ALLOWED = (ast.Import, ast.ImportFrom, ast.FunctionDef, ast.ClassDef, ast.Assign)


def package_files():
    """Return all entries of the package folder, except what Python itself leaves there."""
    found = []
    for folder, folders, files in os.walk(FOLDER):
        folders[:] = [name for name in folders if name != "__pycache__"]
        found += [os.path.join(folder, name) for name in files]
    return sorted(found)


def texts():
    for path in package_files():
        with open(path, encoding="utf-8", newline="") as source:
            yield path, source.read()


class LanguageTest(unittest.TestCase):

    def test_files(self):
        for path in package_files():
            name = os.path.basename(path)
            self.assertRegex(name, r"^(__init__|__main__|[a-z][a-z0-9_]*)\.py$")
            self.assertFalse(name.startswith(("test", "law_")))

    def test_characters_and_sizes(self):
        for path, text in texts():
            with self.subTest(path=path):
                self.assertLessEqual(text.count("\n"), 399)
                for line in text.split("\n"):
                    self.assertLessEqual(len(line), 120)
                    self.assertTrue(all(" " <= letter <= "~" for letter in line), line)

    def test_functions_are_short(self):
        for path, text in texts():
            for node in ast.walk(ast.parse(text)):
                if isinstance(node, ast.FunctionDef):
                    self.assertLessEqual(node.end_lineno - node.lineno + 1, 40, (path, node.name))

    def test_module_level(self):
        for path, text in texts():
            for node in ast.parse(text).body:
                docstring = isinstance(node, ast.Expr) and isinstance(node.value, ast.Constant)
                main = isinstance(node, ast.If) and path.endswith("__main__.py")
                self.assertTrue(docstring or main or isinstance(node, KINDS_ALLOWED), (path, node.lineno))

    def test_imports(self):
        for path, text in texts():
            for node in ast.walk(ast.parse(text)):
                if isinstance(node, ast.Import):
                    self.assertTrue(path.endswith("__main__.py"))
                if isinstance(node, ast.ImportFrom):
                    self.assertEqual(node.level, 0)
                    self.assertTrue(node.module.startswith("calledseats.") or node.module in LIBRARY, node.module)
                    self.assertNotIn("*", [alias.name for alias in node.names])

    def test_no_barred_words(self):
        for path, text in texts():
            for node in ast.walk(ast.parse(text)):
                with self.subTest(path=path, line=getattr(node, "lineno", 0)):
                    if isinstance(node, ast.Name):
                        self.assertNotIn(node.id, BARRED_NAMES)
                    if isinstance(node, ast.Constant):
                        self.assertNotIsInstance(node.value, (float, complex))
                        if isinstance(node.value, str):
                            self.assertNotIn("%", node.value)
                    if isinstance(node, ast.ExceptHandler):
                        self.assertIsNotNone(node.type)
                    self.assertNotIsInstance(node, BARRED_NODES)


if __name__ == "__main__":
    unittest.main()
