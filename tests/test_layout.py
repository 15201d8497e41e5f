"""Tests of the package's files: the plain rules of size, signs and imports that a program can see."""

import ast
import builtins
import pathlib
import unittest

PACKAGE = pathlib.Path(__file__).resolve().parent.parent / "oneseat"
FILES = sorted(PACKAGE.rglob("*.py"))
LIBRARY = ("heapq", "math", "itertools", "collections")
CALLED = (
    "len", "range", "enumerate", "zip", "min", "max", "sum", "abs", "sorted", "reversed", "int", "str", "bool", "list",
    "tuple", "dict", "set", "isinstance", "ord", "repr", "any", "all", "divmod", "iter", "next", "Exception",
    "ValueError", "TypeError", "KeyError", "IndexError", "LookupError", "RuntimeError", "StopIteration",
)
WEIGHING = ("any", "all", "min", "max", "sum", "sorted")


def trees():
    """Give each file's name and its tree."""
    return [(path.stem, ast.parse(path.read_text())) for path in FILES]


def imports():
    """Give for each file the modules that it imports from."""
    told = {}
    for name, tree in trees():
        nodes = [node for node in ast.walk(tree) if isinstance(node, (ast.Import, ast.ImportFrom))]
        told[name] = [getattr(node, "module", None) for node in nodes]
    return told


def given_names(tree):
    """Give all names that functions, classes, parameters and variables of the tree have."""
    told = []
    for node in ast.walk(tree):
        if isinstance(node, (ast.FunctionDef, ast.ClassDef)):
            told.append(node.name)
        if isinstance(node, ast.arg):
            told.append(node.arg)
        if isinstance(node, ast.Name) and not isinstance(node.ctx, ast.Load):
            told.append(node.id)
    return told


class Layout(unittest.TestCase):
    def test_the_folder_holds_python_files_alone(self):
        others = [path for path in PACKAGE.iterdir() if path.suffix != ".py" and path.name != "__pycache__"]
        self.assertEqual(others, [])
        self.assertIn(PACKAGE / "__init__.py", FILES)

    def test_sizes_and_signs(self):
        for path in FILES:
            text = path.read_bytes().decode("ascii")
            self.assertTrue(all(sign == "\n" or " " <= sign <= "~" for sign in text), path)
            lines = text.split("\n")
            self.assertLessEqual(len(lines), 399, path)
            self.assertLessEqual(max(map(len, lines)), 120, path)

    def test_functions_are_small(self):
        for name, tree in trees():
            for node in ast.walk(tree):
                if isinstance(node, ast.FunctionDef):
                    self.assertLessEqual(node.end_lineno - node.lineno + 1, 40, (name, node.name))

    def test_imports_are_of_the_package_and_in_no_ring(self):
        told = imports()
        ahead = {name: [] for name in told}
        for name, modules in told.items():
            for module in modules:
                if module not in LIBRARY:
                    self.assertTrue(module is not None and module.startswith("oneseat."), (name, module))
                    ahead[name].append(module.removeprefix("oneseat."))
        while ahead:
            free = [name for name, modules in ahead.items() if not any(module in ahead for module in modules)]
            self.assertNotEqual(free, [], "files import from each other in a ring")
            ahead = {name: modules for name, modules in ahead.items() if name not in free}

    def test_no_name_of_an_import_or_a_builtin_is_given_another_meaning(self):
        for name, tree in trees():
            imported = [part.name for node in ast.walk(tree) if isinstance(node, ast.ImportFrom) for part in node.names]
            self.assertEqual(len(imported), len(set(imported)), name)
            for given in given_names(tree):
                self.assertNotIn(given, imported, name)
                self.assertNotIn(given, vars(builtins), name)

    def test_plain_builtins_alone_are_read(self):
        for name, tree in trees():
            for node in ast.walk(tree):
                if isinstance(node, ast.Name) and node.id in vars(builtins):
                    self.assertIn(node.id, CALLED, name)

    def test_what_weighs_many_things_takes_lists(self):
        # Later classes compare and have a length: then these calls may take no generator expression.
        for name, tree in trees():
            for node in ast.walk(tree):
                if isinstance(node, ast.Call) and getattr(node.func, "id", "") in WEIGHING:
                    self.assertFalse(any(isinstance(part, ast.GeneratorExp) for part in node.args), (name, node.lineno))

    def test_no_sign_outside_the_language(self):
        for name, tree in trees():
            for node in ast.walk(tree):
                self.assertFalse(isinstance(node, (ast.Div, ast.Import, ast.Await)), (name, node))
                self.assertFalse(isinstance(node, ast.Constant) and isinstance(node.value, (float, complex)), name)
                if isinstance(node, ast.Compare) and any(isinstance(sign, (ast.Is, ast.IsNot)) for sign in node.ops):
                    self.assertTrue(all(getattr(part, "value", 2) in (None, True, False) for part in node.comparators))

    def test_strings_are_plain(self):
        for name, tree in trees():
            for node in ast.walk(tree):
                if isinstance(node, ast.Constant) and isinstance(node.value, str):
                    self.assertNotIn("%", node.value, name)


if __name__ == "__main__":
    unittest.main()
