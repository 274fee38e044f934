"""LANGUAGE.md: the package's files keep to those of its rows that tests.language can see."""

import ast
import pathlib
import re
import unittest

from tests.language import faults_of, methods_of, values_of

PACKAGE = pathlib.Path(__file__).resolve().parent.parent / "doingbook"
BASE = "doingbook"

SENT_BACK = [
    ("L2", "from fractions import Fraction\n"),
    ("L3", "rows = len('a')\n"),
    ("L3", "A = 1\nB = (A, 2)\n"),
    ("L4", "def f(*a):\n    return a\n"),
    ("L5", "class A:\n    x = 1\n"),
    ("L6", "def f(a):\n    b = c = a\n    return b\n"),
    ("L6", "def f(a):\n    b, c = a\n    return b + c\n"),
    ("L6 or L7", "def f(a):\n    return {n: True for n in a}\n"),
    ("L7", "def f():\n    return 1.5\n"),
    ("L8", "def f(a):\n    return hash(a)\n"),
    ("L10", "def f(a):\n" + "    a = a + 1\n" * 40),
    ("L12", "def f(a):\n    return [1 for _ in a]\n"),
    ("L14", "# \u00e4\n"),
    ("L15", "def f(id):\n    return id\n"),
    ("L17", "# the type\n"),
    ("L20", "def f(a, b):\n    return a is b\n"),
    ("L23", "def f(a):\n    b = range(a)\n    return b\n"),
    ("L24", "def f(a):\n    b = set(a)\n    return b\n"),
    ("L25", "def f(a):\n    a.sort()\n"),
    ("L26", "class A:\n    def __init__(self):\n        self.args = 1\n"),
    ("L27", "def f(n):\n    return 2 ** n\n"),
    ("L28", "class A:\n    def __init__(self):\n        return None\n"),
]


def package_files():
    return sorted(PACKAGE.glob("*.py"))


def package_trees():
    return {file.stem: ast.parse(file.read_text()) for file in package_files()}


def drawn_from(tree):
    rows = [row for row in tree.body if isinstance(row, ast.ImportFrom)]
    return [(row.module.split(".")[1], name.name) for row in rows for name in row.names]


class LanguageTest(unittest.TestCase):
    def test_each_file_keeps_to_the_rows(self):
        methods = [name for tree in package_trees().values() for name in methods_of(tree)]
        for file in package_files():
            with self.subTest(file.name):
                self.assertEqual(faults_of(file.read_text(), BASE, methods), [])

    def test_only_plain_files_lie_in_the_package(self):
        there = [path.name for path in PACKAGE.iterdir() if path.name != "__pycache__"]
        self.assertIn("__init__.py", there)
        for name in there:
            self.assertTrue(re.fullmatch(r"[a-z0-9_]+\.py", name), name)
            self.assertFalse(name.startswith("test"), name)

    def test_names_are_drawn_from_the_file_that_defines_them(self):
        trees = package_trees()
        for stem, tree in trees.items():
            for module, name in drawn_from(tree):
                rows = trees[module].body
                defined = [row.name for row in rows if isinstance(row, (ast.FunctionDef, ast.ClassDef))]
                defined += [row.targets[0].id for row in rows if isinstance(row, ast.Assign)]
                self.assertIn(name, defined, stem)

    def test_no_two_files_draw_from_one_another(self):
        left = {stem: {module for module, name in drawn_from(tree)} for stem, tree in package_trees().items()}
        while left:
            free = [stem for stem in left if not left[stem] & set(left)]
            self.assertTrue(free, sorted(left))
            left = {stem: modules for stem, modules in left.items() if stem not in free}

    def test_no_name_is_both_a_method_and_a_value(self):
        trees = package_trees().values()
        methods = {name for tree in trees for name in methods_of(tree)}
        values = {name for tree in trees for name in values_of(tree)}
        self.assertEqual(methods & values, set())

    def test_what_lies_outside_is_seen(self):
        for rule, text in SENT_BACK:
            with self.subTest(rule, text=text):
                self.assertIn(rule, [found for found, line in faults_of(text, BASE, [])])


if __name__ == "__main__":
    unittest.main()
