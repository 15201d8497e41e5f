"""Tests of the package's files: the plain rules of size, signs and imports that a program can see."""

import ast
import pathlib
import unittest

PACKAGE = pathlib.Path(__file__).resolve().parent.parent / "oneseat"
FILES = sorted(PACKAGE.rglob("*.py"))
LIBRARY = ("heapq", "math", "itertools", "collections")


def trees():
    """Give each file's name and its tree."""
    return [(path.stem, ast.parse(path.read_text())) for path in FILES]


def imports():
    """Give for each file the modules that it imports from."""
    told = {}
    for name, tree in trees():
        nodes = [node for node in ast.walk(tree) if isinstance(node, (ast.Import, ast.ImportFrom))]
        told[name] = [getattr(node, "module", None) for node in nodes]
    return told


class Layout(unittest.TestCase):
    def test_the_folder_holds_python_files_alone(self):
        others = [path for path in PACKAGE.iterdir() if path.suffix != ".py" and path.name != "__pycache__"]
        self.assertEqual(others, [])
        self.assertIn(PACKAGE / "__init__.py", FILES)

    def test_sizes_and_signs(self):
        for path in FILES:
            text = path.read_bytes().decode("ascii")
            self.assertTrue(all(sign == "\n" or " " <= sign <= "~" for sign in text), path)
            lines = text.split("\n")
            self.assertLessEqual(len(lines), 399, path)
            self.assertLessEqual(max(map(len, lines)), 120, path)

    def test_functions_are_small(self):
        for name, tree in trees():
            for node in ast.walk(tree):
                if isinstance(node, ast.FunctionDef):
                    self.assertLessEqual(node.end_lineno - node.lineno + 1, 40, (name, node.name))

    def test_imports_are_of_the_package_and_in_no_ring(self):
        told = imports()
        ahead = {name: [] for name in told}
        for name, modules in told.items():
            for module in modules:
                if module not in LIBRARY:
                    self.assertTrue(module is not None and module.startswith("oneseat."), (name, module))
                    ahead[name].append(module.removeprefix("oneseat."))
        while ahead:
            free = [name for name, modules in ahead.items() if not any(module in ahead for module in modules)]
            self.assertNotEqual(free, [], "files import from each other in a ring")
            ahead = {name: modules for name, modules in ahead.items() if name not in free}

    def test_strings_are_plain(self):
        for name, tree in trees():
            for node in ast.walk(tree):
                if isinstance(node, ast.Constant) and isinstance(node.value, str):
                    self.assertNotIn("%", node.value, name)


if __name__ == "__main__":
    unittest.main()
