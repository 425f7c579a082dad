"""The form of the package's files: sizes, characters and imports."""

import ast
import builtins
import pathlib
import unittest

import fourswaps

FOLDER = pathlib.Path(fourswaps.__file__).parent
FILES = sorted(FOLDER.glob("*.py"))
LIBRARY = ("collections", "heapq", "itertools", "math")
BUILTINS = (
    "len range enumerate zip min max sum abs sorted reversed int str bool list tuple dict set isinstance any all "
    "ValueError LookupError ArithmeticError TypeError property classmethod").split()
METHODS = (
    "append clear copy count endswith extend find get index insert isdigit items join keys pop remove replace reverse "
    "setdefault split startswith strip update values").split()
# Examples that are run leave what they showed last under the name _.
TAKEN = set(dir(builtins)) - {"_"}
OPERATORS = (
    "__init__ __eq__ __str__ __len__ __bool__ __enter__ __exit__ __iter__ __contains__ __getitem__ __setitem__").split()
PLAIN = (
    ast.GeneratorExp, ast.Lambda, ast.Yield, ast.YieldFrom, ast.Global, ast.Starred, ast.JoinedStr, ast.Delete, ast.Await,
    ast.AsyncFunctionDef, ast.Div, ast.Pow, ast.NamedExpr, ast.Assert, ast.AnnAssign,
)


def trees():
    return {path.stem: ast.parse(path.read_text()) for path in FILES}


def functions(tree):
    return [node for node in ast.walk(tree) if isinstance(node, ast.FunctionDef)]


def bound_at_top(tree):
    """The names that a file defines itself, and those that it imports."""
    own = [node.name for node in tree.body if isinstance(node, (ast.FunctionDef, ast.ClassDef))]
    own += [target.id for node in tree.body if isinstance(node, ast.Assign) for target in node.targets]
    imported = [alias.name for node in tree.body if isinstance(node, ast.ImportFrom) for alias in node.names]
    return own, imported


def bound_within(node):
    """The names of the parameters and local variables of a function."""
    names = {one.arg for one in ast.walk(node) if isinstance(one, ast.arg)}
    return names | {one.id for one in ast.walk(node) if isinstance(one, ast.Name) and isinstance(one.ctx, ast.Store)}


def rows_at_the_end(tree):
    """The rows, docstrings left out, of each `__exit__` of a file and of the method `shut` of its class, together."""
    told = []
    for made in ast.walk(tree):
        if isinstance(made, ast.ClassDef):
            methods = {node.name: node for node in functions(made)}
            if "__exit__" in methods:
                ends = [methods[name] for name in ("__exit__", "shut") if name in methods]
                told.append([
                    row for node in ends for row in ast.walk(node) if isinstance(row, ast.stmt)
                    and row is not node and not (row is node.body[0] and ast.get_docstring(node))])
    return told


class Form(unittest.TestCase):
    def test_the_folder_holds_files_of_the_program_only(self):
        names = {path.name for path in FOLDER.iterdir()} - {"__pycache__"}
        self.assertEqual(names, {path.name for path in FILES})

    def test_characters_and_sizes(self):
        for path in FILES:
            with self.subTest(path.name):
                lines = path.read_bytes().decode("ascii").split("\n")
                self.assertLess(len(lines), 400)
                self.assertLessEqual(max(map(len, lines)), 120)
                self.assertEqual({c for line in lines for c in line if not " " <= c <= "~"}, set())

    def test_functions_are_short(self):
        for path in FILES:
            for node in ast.walk(ast.parse(path.read_text())):
                if isinstance(node, ast.FunctionDef):
                    with self.subTest(path.name, function=node.name):
                        self.assertLessEqual(node.end_lineno - node.lineno + 1, 40)

    def test_imports_come_from_the_package_and_pythons_own_library(self):
        for path in FILES:
            for node in ast.walk(ast.parse(path.read_text())):
                with self.subTest(path.name):
                    self.assertNotIsInstance(node, ast.Import)
                    if isinstance(node, ast.ImportFrom):
                        self.assertIn(node.module.split(".")[0], ("fourswaps", *LIBRARY))
                        self.assertEqual(node.level, 0)

    def test_imports_name_the_file_that_defines_the_name(self):
        told = trees()
        for name, tree in told.items():
            for node in tree.body:
                if isinstance(node, ast.ImportFrom) and node.module.startswith("fourswaps."):
                    own = bound_at_top(told[node.module.split(".")[1]])[0]
                    for alias in node.names:
                        with self.subTest(name, alias=alias.name):
                            self.assertIn(alias.name, own)
                            self.assertIsNone(alias.asname)

    def test_no_two_files_import_from_each_other(self):
        needs = {
            name: {node.module.split(".")[1] for node in tree.body
                   if isinstance(node, ast.ImportFrom) and node.module.startswith("fourswaps.")}
            for name, tree in trees().items()}
        left = set(needs)
        while left:
            free = {name for name in left if not needs[name] & left}
            self.assertTrue(free, left)
            left -= free

    def test_each_name_is_bound_once_and_means_one_thing(self):
        for name, tree in trees().items():
            own, imported = bound_at_top(tree)
            classes = [node.name for node in tree.body if isinstance(node, ast.ClassDef)]
            self.assertEqual(len(own + imported), len(set(own + imported)), name)
            self.assertFalse(set(own) & TAKEN, name)
            for node in functions(tree):
                with self.subTest(name, function=node.name):
                    self.assertFalse(bound_within(node) & {*imported, *classes, *TAKEN})

    def test_each_import_and_each_name_is_used(self):
        for name, tree in trees().items():
            read = {node.id for node in ast.walk(tree) if isinstance(node, ast.Name) and isinstance(node.ctx, ast.Load)}
            self.assertFalse(set(bound_at_top(tree)[1]) - read, name)
            self.assertNotIn("_", read, name)
            for node in functions(tree):
                self.assertFalse({one for one in bound_within(node) if one.startswith("__")}, name)

    def test_plain_statements_and_expressions(self):
        for name, tree in trees().items():
            own, imported = bound_at_top(tree)
            for node in ast.walk(tree):
                if name != "limits":
                    self.assertNotIsInstance(node, PLAIN, name)
                if isinstance(node, ast.FunctionDef):
                    self.assertTrue(node.name in OPERATORS or not node.name.startswith("__"), node.name)
                if isinstance(node, ast.Call) and isinstance(node.func, ast.Name) and node.func.id in TAKEN:
                    self.assertIn(node.func.id, BUILTINS, name)
                if isinstance(node, ast.Compare) and isinstance(node.ops[0], (ast.Is, ast.IsNot)):
                    self.assertTrue(
                        isinstance(node.comparators[0], ast.Constant) or ast.unparse(node) == "self is other", ast.unparse(node))

    def test_methods_are_own_ones_or_plain_ones(self):
        own = {node.name for tree in trees().values() for node in functions(tree)}
        for name, tree in trees().items():
            for node in ast.walk(tree):
                if isinstance(node, ast.Call) and isinstance(node.func, ast.Attribute):
                    self.assertIn(node.func.attr, own.union(METHODS), name)

    def test_rows_of_trials_that_end(self):
        told = [rows for tree in trees().values() for rows in rows_at_the_end(tree)]
        self.assertEqual(len(told), 1)
        for rows in told:
            kept = [row for row in rows if isinstance(row, ast.Assign) and isinstance(row.targets[0], ast.Name)]
            self.assertLessEqual(len(kept), 1, [ast.unparse(row) for row in kept])
            for row in rows:
                with self.subTest(row=ast.unparse(row)):
                    self.assertIsInstance(row, (ast.Assign, ast.If, ast.Expr))
                    if isinstance(row, ast.Assign):
                        self.assertEqual(len(row.targets), 1)
                        self.assertIsInstance(row.value, ast.Attribute)
                    if isinstance(row, ast.If):
                        self.assertEqual(ast.unparse(row.test), "kind is not None")
                    if isinstance(row, ast.Expr):
                        self.assertEqual(ast.unparse(row), "self.shut()")

    def test_sets_stand_in_sorted_and_len_alone(self):
        for name, tree in trees().items():
            held = {
                node.args[0] for node in ast.walk(tree) if isinstance(node, ast.Call) and isinstance(node.func, ast.Name)
                and node.func.id in ("sorted", "len") and not node.keywords}
            for node in ast.walk(tree):
                if isinstance(node, ast.Call) and isinstance(node.func, ast.Name) and node.func.id == "set":
                    self.assertIn(node, held, name)
                self.assertNotIsInstance(node, (ast.Set, ast.SetComp), name)


if __name__ == "__main__":
    unittest.main()
