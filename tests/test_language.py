"""The package keeps to the small part of Python in which it is written."""

import ast
import os
import re
import sys
import unittest

HERE = os.path.dirname(os.path.abspath(__file__))
PACKAGE = os.path.join(os.path.dirname(HERE), "phialhouse")
sys.path.insert(0, HERE)

from language import bound_at_top, faults, fields_in, methods_in


def package_files():
    found = {}
    for name in sorted(os.listdir(PACKAGE)):
        if name != "__pycache__":
            with open(os.path.join(PACKAGE, name), encoding="utf-8", newline="") as file:
                found[name] = file.read()
    return found


def drawn_from(tree):
    return [node.module.partition(".")[2] for node in tree.body if isinstance(node, ast.ImportFrom)]


class TestPackage(unittest.TestCase):
    def setUp(self):
        self.files = package_files()
        self.trees = {name: ast.parse(text) for name, text in self.files.items()}

    def test_files(self):
        self.assertIn("__init__.py", self.files)
        for name in self.files:
            self.assertRegex(name, r"\A([a-z][a-z0-9_]*|__init__|__main__)\.py\Z")

    def test_no_file_lies_outside_the_language(self):
        fields = set().union(*[fields_in(tree) for tree in self.trees.values()])
        methods = set().union(*[methods_in(tree) for tree in self.trees.values()])
        self.assertEqual(fields & methods, set())
        for name, text in self.files.items():
            with self.subTest(name):
                self.assertEqual(faults(text, fields, methods), [])

    def test_names_are_drawn_from_the_file_that_defines_them(self):
        for name, tree in self.trees.items():
            for node in tree.body:
                if isinstance(node, ast.ImportFrom):
                    source = bound_at_top(self.trees[node.module.partition(".")[2] + ".py"])
                    for part in node.names:
                        self.assertIn(part.name, source, name)
                        self.assertNotIsInstance(source[part.name][0], ast.ImportFrom, name)

    def test_no_two_files_draw_from_one_another(self):
        left = {name.partition(".")[0]: drawn_from(tree) for name, tree in self.trees.items()}
        while left:
            free = [name for name, sources in left.items() if not [one for one in sources if one in left]]
            self.assertNotEqual(free, [], sorted(left))
            left = {name: sources for name, sources in left.items() if name not in free}

    def test_what_is_drawn_is_used(self):
        for name, text in self.files.items():
            for node in self.trees[name].body:
                if isinstance(node, ast.ImportFrom):
                    for part in node.names:
                        used = len(re.findall(r"\b" + part.name + r"\b", text))
                        self.assertGreater(used, 1, (name, part.name))


class TestLooker(unittest.TestCase):
    def test_what_is_sent_back(self):
        for rule, text in [
            ("L2", "from os import path\n"), ("L3", "X = len('a')\n"), ("L3", "print(1)\n"),
            ("L4", "def f(*xs):\n    return xs\n"), ("L5", "class A:\n    x = 1\n"),
            ("L6", "def f(a):\n    b, c = a\n    return b + c\n"), ("L6", "def f(a):\n    'words'\n    return a\n"),
            ("L6", "def f(a):\n    assert a\n"), ("L7", "def f(a):\n    return a / 2\n"),
            ("L7", "def f(a):\n    return 0.5\n"), ("L7", "def f(a):\n    return {b for b in a}\n"),
            ("L8", "def f(a):\n    return chr(a)\n"), ("L8", "def f(a):\n    return missing\n"),
            ("L10", "def f(a):\n" + "    a = 1\n" * 40), ("L12", "def f(a):\n    _b = a\n    return _b\n"),
            ("L14", "# \u00e9\n"), ("L15", "def f(sum):\n    return sum\n"), ("L15", "X = 1\nX = 2\n"),
            ("L17", "# a type of thing\n"), ("L19", "def f(a):\n    raise ValueError\n"),
            ("L20", "def f(a):\n    return a is 3\n"), ("L21", "def f(a: int):\n    return a\n"),
            ("L25", "def f(a):\n    return a.sort()\n"), ("L27", "def f(a):\n    return 2 ** a\n"),
            ("L27", "X = '%'\n"),
        ]:
            with self.subTest(text):
                self.assertIn(rule, [found[0] for found in faults(text)])

    def test_what_is_let_by(self):
        self.assertEqual(faults("'Words.'\n\nX = (1, 'a')\n\n\ndef f(a, b=1):\n    return [c for c in a if c != b]\n"), [])


if __name__ == "__main__":
    unittest.main()
