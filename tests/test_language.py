"""Some rules of the language that the package is written in, as far as they are quickly checked."""

import ast
import builtins
import unittest
from pathlib import Path

FOLDER = Path(__file__).resolve().parent.parent / "codespans"
FILES = sorted(FOLDER.glob("*.py"))


def bound_names(tree):
    """All names of parameters and local variables in a file, and of its nested functions."""
    found = set()
    for node in ast.walk(tree):
        if isinstance(node, ast.arg):
            found.add(node.arg)
        elif isinstance(node, ast.Name) and isinstance(node.ctx, ast.Store):
            found.add(node.id)
    return found


class LanguageTest(unittest.TestCase):
    def test_the_folder_holds_python_files_only(self):
        names = {path.name for path in FOLDER.iterdir()} - {"__pycache__"}
        self.assertEqual(names, {path.name for path in FILES})
        self.assertIn("__init__.py", names)

    def test_sizes_and_characters(self):
        for path in FILES:
            text = path.read_bytes().decode("ascii")
            lines = text.split("\n")
            self.assertLessEqual(len(lines), 399, path.name)
            for line in lines:
                self.assertLessEqual(len(line), 120, path.name)
                self.assertTrue(line.isprintable(), path.name)
            for node in ast.walk(ast.parse(text)):
                if isinstance(node, ast.FunctionDef):
                    self.assertLessEqual(node.end_lineno - node.lineno + 1, 40, node.name)

    def test_imports_stand_at_the_top_and_are_of_the_package(self):
        for path in FILES:
            tree = ast.parse(path.read_text())
            for node in ast.walk(tree):
                self.assertNotIsInstance(node, ast.Import)
                if isinstance(node, ast.ImportFrom):
                    self.assertIn(node, tree.body)
                    self.assertEqual(node.module.split(".")[0], "codespans")
                    other = ast.parse((FOLDER / f"{node.module.split('.')[1]}.py").read_text())
                    for name in node.names:
                        self.assertIsNone(name.asname)
                        self.assertTrue(defines(other, name.name), name.name)

    def test_names(self):
        for path in FILES:
            tree = ast.parse(path.read_text())
            taken = set(dir(builtins))
            for node in tree.body:
                if isinstance(node, ast.ClassDef):
                    taken.add(node.name)
                elif isinstance(node, ast.ImportFrom):
                    taken |= {name.name for name in node.names}
            self.assertEqual(bound_names(tree) & taken, set(), path.name)

    def test_no_floats_and_no_percent_sign_in_strings(self):
        for path in FILES:
            for node in ast.walk(ast.parse(path.read_text())):
                self.assertNotIsInstance(node, ast.Div)
                if isinstance(node, ast.Constant):
                    self.assertNotIsInstance(node.value, float)
                    if isinstance(node.value, str):
                        self.assertNotIn("%", node.value)


def defines(tree, name):
    for node in tree.body:
        if isinstance(node, (ast.FunctionDef, ast.ClassDef)) and node.name == name:
            return True
        if isinstance(node, ast.Assign) and node.targets[0].id == name:
            return True
    return False


if __name__ == "__main__":
    unittest.main()
