"""The rules of the language, and of the interface, that a look at the files shows."""

import ast
import pathlib
import re
import unittest

from loosemirrors.ratios import Ratio
from loosemirrors.scripts import Script

FOLDER = pathlib.Path(__file__).resolve().parent.parent / "loosemirrors"

# Of each file: each class of the interface, and the methods that its body defines.
METHODS = {
    "ratios": {"Ratio": ("of", "divided", "__repr__", "__eq__", "__lt__", "__le__", "__gt__", "__ge__", "__neg__",
                         "__add__", "__radd__", "__sub__", "__rsub__", "__mul__", "__rmul__")},
    "scripts": {"Script": ("times", "__len__", "__mul__", "__invert__", "__repr__", "__eq__")},
}

LIBRARY = {
    "math": ("gcd", "lcm", "isqrt", "comb", "perm", "factorial"),
    "itertools": ("product", "combinations", "permutations"),
}
BARRED_WORDS = re.compile(r"\b(register|mro|elements|open|input|law|print|eval|exec|globals|locals|float)\b|_wall")
BARRED_NODES = (ast.Global, ast.AsyncFunctionDef, ast.Await, ast.Div, ast.Import)


def trees():
    return {path.stem: ast.parse(path.read_text()) for path in sorted(FOLDER.glob("*.py"))}


def bound(tree):
    """What a file defines: names of functions, classes and values."""
    names = [node.name for node in tree.body if isinstance(node, (ast.FunctionDef, ast.ClassDef))]
    for node in tree.body:
        if isinstance(node, ast.Assign):
            names.extend(target.id for target in node.targets)
    return names


class Files(unittest.TestCase):
    def test_the_folder_holds_plain_files_alone(self):
        self.assertTrue((FOLDER / "__init__.py").is_file())
        for path in FOLDER.iterdir():
            if path.name != "__pycache__":
                self.assertRegex(path.name, r"^(__init__|[a-z][a-z0-9_]*)\.py$")

    def test_sizes_and_characters(self):
        for path in FOLDER.glob("*.py"):
            with self.subTest(path=path.name):
                text = path.read_text()
                lines = text.splitlines()
                self.assertLessEqual(len(lines), 399)
                self.assertLessEqual(max(len(line) for line in lines), 120)
                self.assertRegex(text, r"\A[ -~\n]*\Z")

    def test_functions_have_at_most_40_lines(self):
        for name, tree in trees().items():
            for node in ast.walk(tree):
                if isinstance(node, ast.FunctionDef):
                    with self.subTest(file=name, function=node.name):
                        self.assertLessEqual(node.end_lineno - node.lineno + 1, 40)


class Words(unittest.TestCase):
    def test_imports_name_the_file_that_defines(self):
        found = trees()
        for name, tree in found.items():
            for node in ast.walk(tree):
                if isinstance(node, ast.ImportFrom):
                    package, _, module = node.module.partition(".")
                    there = bound(found[module]) if package == "loosemirrors" else LIBRARY[package]
                    for alias in node.names:
                        with self.subTest(file=name, imported=alias.name):
                            self.assertIsNone(alias.asname)
                            self.assertIn(alias.name, there)

    def test_nothing_that_is_barred(self):
        for name, tree in trees().items():
            with self.subTest(file=name):
                self.assertNotRegex((FOLDER / f"{name}.py").read_text(), BARRED_WORDS)
                for node in ast.walk(tree):
                    self.assertNotIsInstance(node, BARRED_NODES)
                    if isinstance(node, ast.Constant):
                        self.assertNotIsInstance(node.value, (float, complex, bytes))


class Interface(unittest.TestCase):
    def test_classes_and_methods_stand_in_their_files(self):
        found = trees()
        for name, classes in METHODS.items():
            bodies = {node.name: node.body for node in found[name].body if isinstance(node, ast.ClassDef)}
            for told, methods in classes.items():
                own = [node.name for node in bodies[told] if isinstance(node, ast.FunctionDef)]
                for method in methods:
                    with self.subTest(file=name, method=method):
                        self.assertIn(method, own)

    def test_attributes_are_set_when_an_object_is_created(self):
        for made in (Ratio(1), Ratio(2, -4), Ratio.of("1/2"), Ratio(1) + 1, -Ratio(1), Ratio(1).divided(2)):
            self.assertEqual(sorted(vars(made)), ["number", "text", "under"])
        one = Script("a b b")
        for made in (one, Script(""), one * one, ~one, one.times(2), one.plain):
            self.assertEqual(sorted(vars(made)), ["plain", "steps", "text"])


if __name__ == "__main__":
    unittest.main()
