"""The package keeps to the small part of Python in which it is written."""

import ast
import builtins
import os
import re
import sys
import unittest

HERE = os.path.dirname(os.path.abspath(__file__))
PACKAGE = os.path.join(os.path.dirname(HERE), "phialhouse")
sys.path.insert(0, HERE)

from language import OWN_METHODS, OWN_VALUES, PYTHONS, SPECIAL, bound_at_top, faults, fields_in, methods_in


def package_files():
    found = {}
    for name in sorted(os.listdir(PACKAGE)):
        if name != "__pycache__":
            with open(os.path.join(PACKAGE, name), encoding="utf-8", newline="") as file:
                found[name] = file.read()
    return found


def drawn_from(tree):
    return [node.module.partition(".")[2] for node in tree.body if isinstance(node, ast.ImportFrom)]


class TestPackage(unittest.TestCase):
    def setUp(self):
        self.files = package_files()
        self.trees = {name: ast.parse(text) for name, text in self.files.items()}

    def test_files(self):
        self.assertIn("__init__.py", self.files)
        for name in self.files:
            self.assertRegex(name, r"\A([a-z][a-z0-9_]*|__init__|__main__)\.py\Z")
            self.assertNotIn(name.partition(".")[0], dir(builtins))

    def test_no_file_lies_outside_the_language(self):
        fields = set().union(*[fields_in(tree) for tree in self.trees.values()])
        methods = set().union(*[methods_in(tree) for tree in self.trees.values()])
        self.assertEqual(fields & methods, set())
        self.assertEqual((methods - SPECIAL) & PYTHONS - OWN_METHODS, set())
        self.assertEqual(fields & PYTHONS - OWN_VALUES, set())
        for name, text in self.files.items():
            with self.subTest(name):
                self.assertEqual(faults(text, fields, methods), [])

    def test_names_are_drawn_from_the_file_that_defines_them(self):
        for name, tree in self.trees.items():
            for node in tree.body:
                if isinstance(node, ast.ImportFrom):
                    source = bound_at_top(self.trees[node.module.partition(".")[2] + ".py"])
                    for part in node.names:
                        self.assertIn(part.name, source, name)
                        self.assertNotIsInstance(source[part.name][0], ast.ImportFrom, name)

    def test_no_two_files_draw_from_one_another(self):
        left = {name.partition(".")[0]: drawn_from(tree) for name, tree in self.trees.items()}
        while left:
            free = [name for name, sources in left.items() if not [one for one in sources if one in left]]
            self.assertNotEqual(free, [], sorted(left))
            left = {name: sources for name, sources in left.items() if name not in free}

    def test_what_is_drawn_is_used(self):
        for name, text in self.files.items():
            for node in self.trees[name].body:
                if isinstance(node, ast.ImportFrom):
                    for part in node.names:
                        used = len(re.findall(r"\b" + part.name + r"\b", text))
                        self.assertGreater(used, 1, (name, part.name))


class TestLooker(unittest.TestCase):
    def test_what_is_sent_back(self):
        for rule, text in [
            ("L2", "from os import path\n"), ("L3", "X = len('a')\n"), ("L3", "print(1)\n"),
            ("L4", "def f(*xs):\n    return xs\n"), ("L5", "class A:\n    x = 1\n"),
            ("L6", "def f(a):\n    b, c = a\n    return b + c\n"), ("L6", "def f(a):\n    'words'\n    return a\n"),
            ("L6", "def f(a):\n    assert a\n"), ("L7", "def f(a):\n    return a / 2\n"),
            ("L7", "def f(a):\n    return 0.5\n"), ("L7", "def f(a):\n    return {b for b in a}\n"),
            ("L8", "def f(a):\n    return chr(a)\n"), ("L8", "def f(a):\n    return missing\n"),
            ("L10", "def f(a):\n" + "    a = 1\n" * 40), ("L12", "def f(a):\n    _b = a\n    return _b\n"),
            ("L14", "# \u00e9\n"), ("L15", "def f(sum):\n    return sum\n"), ("L15", "X = 1\nX = 2\n"),
            ("L17", "# a type of thing\n"), ("L19", "def f(a):\n    raise ValueError\n"),
            ("L20", "def f(a):\n    return a is 3\n"), ("L21", "def f(a: int):\n    return a\n"),
            ("L25", "def f(a):\n    return a.sort()\n"), ("L27", "def f(a):\n    return 2 ** a\n"),
            ("L27", "X = '%'\n"), ("L27", "X = '\\x41'\n"), ("L3", "Y = 1\nX = (1, Y)\n"), ("L15", "X = [[1], 2]\n"),
            ("L13", "def f(a):\n    return [lambda b: a, lambda b: b]\n"),
            ("L15", "X = [1]\n\n\ndef f(a):\n    X.append(a)\n"), ("L15", "X = {1: 2}\n\n\ndef f(a):\n    X[a] = 1\n"),
            ("L15", "X = [1]\n\n\ndef f(a):\n    return X\n"), ("L15", "X = [1]\n\n\ndef f(a):\n    return a(X)\n"),
            ("L17", "def f(a):\n    id = a\n    return id\n"),
            ("L18", "class A:\n    pass\n\n\ndef f(a):\n    return [A, a]\n"),
            ("L19", "def f(a):\n    try:\n        return a[0]\n    except Exception:\n        return None\n"),
            ("L19", "def f(a):\n    try:\n        return a()\n    except ValueError:\n        return None\n"),
            ("L22", "def f(a):\n    return [len, a]\n"), ("L22", "def f(a, b):\n    return sorted(a, reverse=b)\n"),
            ("L22", "def f(a):\n    return int(a, base=2)\n"),
            ("L23", "def f(a):\n    b = zip(a, a)\n    return b\n"), ("L23", "def f(a):\n    return a.items()\n"),
            ("L23", "def f(a):\n    for b in a:\n        a.append(b)\n"),
            ("L23", "def f(a):\n    for b, c in enumerate(a):\n        a[b] = c\n"),
            ("L24", "def f(a):\n    b = set(a)\n    return len(b)\n"), ("L24", "def f(a, b):\n    return set(a) <= set(b)\n"),
            ("L28", "class A:\n    def __init__(self):\n        return None\n"),
        ]:
            with self.subTest(text):
                self.assertIn(rule, [found[0] for found in faults(text)])

    def test_what_is_let_by(self):
        for text in ["def f(a, b):\n    return sorted(set(a) - set(b)) + [len(set(a)), 1 in set(b)]\n",
                     "X = {'a': (1, 2)}\n\n\ndef f(a):\n    return X.get(a), X[a], a in X, list(X), [b for b in X]\n",
                     "def f(a):\n    for b in list(a):\n        a.append(b)\n    return sorted(a, key=lambda b: b, reverse=True)\n",
                     "def f(a):\n    def g(b):\n        return a + b\n    return [g(c) for c in zip(a, a)]\n"]:
            with self.subTest(text):
                self.assertEqual(faults(text), [])
        self.assertEqual(faults("'Words.'\n\nX = (1, 'a')\n\n\ndef f(a, b=1):\n    return [c for c in a if c != b]\n"), [])


if __name__ == "__main__":
    unittest.main()
