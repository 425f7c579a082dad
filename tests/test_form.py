"""The form of the package's files: sizes, characters and imports."""

import ast
import pathlib
import unittest

import fourswaps

FOLDER = pathlib.Path(fourswaps.__file__).parent
FILES = sorted(FOLDER.glob("*.py"))
LIBRARY = ("collections", "heapq", "itertools", "math")


class Form(unittest.TestCase):
    def test_the_folder_holds_files_of_the_program_only(self):
        names = {path.name for path in FOLDER.iterdir()} - {"__pycache__"}
        self.assertEqual(names, {path.name for path in FILES})

    def test_characters_and_sizes(self):
        for path in FILES:
            with self.subTest(path.name):
                lines = path.read_bytes().decode("ascii").split("\n")
                self.assertLess(len(lines), 400)
                self.assertLessEqual(max(map(len, lines)), 120)
                self.assertEqual({c for line in lines for c in line if not " " <= c <= "~"}, set())

    def test_functions_are_short(self):
        for path in FILES:
            for node in ast.walk(ast.parse(path.read_text())):
                if isinstance(node, ast.FunctionDef):
                    with self.subTest(path.name, function=node.name):
                        self.assertLessEqual(node.end_lineno - node.lineno + 1, 40)

    def test_imports_come_from_the_package_and_pythons_own_library(self):
        for path in FILES:
            for node in ast.walk(ast.parse(path.read_text())):
                with self.subTest(path.name):
                    self.assertNotIsInstance(node, ast.Import)
                    if isinstance(node, ast.ImportFrom):
                        self.assertIn(node.module.split(".")[0], ("fourswaps", *LIBRARY))
                        self.assertEqual(node.level, 0)


if __name__ == "__main__":
    unittest.main()
