"""The package keeps to the language document, and the finder of faults finds them."""

import ast
import os
import unittest

import sealedorders
from language import faults, file_faults

FOLDER = os.path.dirname(os.path.abspath(sealedorders.__file__))

WRONG = (
    ("L2", "import os\n"),
    ("L2", "from os import path\n"),
    ("L2", "from .game import answers\n"),
    ("L2", "from sealedorders.game import *\n"),
    ("L2", "X = 1\nfrom sealedorders.game import answers\n"),
    ("L2", "def f(x):\n    from sealedorders.game import answers\n    return answers(x)\n"),
    ("L3", "print(1)\n"),
    ("L3", "X = []\n"),
    ("L3", "X = len(())\n"),
    ("L4", "def f(*xs):\n    return xs\n"),
    ("L4", "def f(a, *, b):\n    return a\n"),
    ("L4", "X = (0,)\n\n\ndef f(a=X):\n    return a\n"),
    ("L5", "class A:\n    x = 1\n"),
    ("L6", "def f(x):\n    assert x\n"),
    ("L6", "def f(x):\n    del x[0]\n"),
    ("L6", "def f(x):\n    a = b = x\n    return a + b\n"),
    ("L6", "def f(x):\n    a, b = x\n    return a + b\n"),
    ("L6", "def f(x):\n    for a in x:\n        pass\n    else:\n        pass\n"),
    ("L6", "def f(x):\n    yield x\n"),
    ("L6", "def f(x):\n    global y\n    y = x\n"),
    ("L7", "def f(x):\n    return x / 2\n"),
    ("L7", "X = 1.5\n"),
    ("L7", "def f(x):\n    return all(a for a in x)\n"),
    ("L7", "def f(x):\n    return {a for a in x}\n"),
    ("L7", "def f(x):\n    return [a + b for a in x for b in x]\n"),
    ("L7", "def f(x):\n    return [*x]\n"),
    ("L8", "def f(x):\n    return map(str, x)\n"),
    ("L8", "def f(x):\n    return chr(x)\n"),
    ("L8", "def len(x):\n    return x\n"),
    ("L10", "def f(x):\n" + "    x = x + 1\n" * 40),
    ("L10", "# a\n" * 401),
    ("L10", "# " + "a" * 119 + "\n"),
    ("L12", "def f(x):\n    return [1 for _ in x]\n"),
    ("L12", "def _f(x):\n    return x\n"),
    ("L12", "class A:\n    def __hash__(self):\n        return 1\n"),
    ("L14", "# \u00e9\n"),
    ("L14", "def f(x):\n\treturn x\n"),
    ("L15", "X = 1\nX = 2\n"),
    ("L15", "def f(id):\n    return 1\n"),
    ("L15", "class A:\n    pass\n\n\ndef f(A):\n    return A\n"),
    ("L17", "# its type\n"),
    ("L17", "def f(x):\n    return x.open\n"),
    ("L18", "class A:\n    def f(self):\n        return 1\n\n\nclass B:\n    def __init__(self):\n        self.f = 1\n"),
    ("L18", "class A:\n    pass\n\n\ndef f():\n    return [A]\n"),
    ("L18", "class A:\n    pass\n\n\ndef f():\n    A.x = 1\n"),
    ("L18", "X = (1, 2)\n\n\ndef f():\n    X[0] = 1\n"),
    ("L20", "def f(x, y):\n    return x is y\n"),
    ("L21", "def f(x: int):\n    return x\n"),
    ("L22", "def f(x):\n    return sorted(x, reverse=True)\n"),
    ("L22", "def f(x):\n    g = len\n    return g(x)\n"),
    ("L23", "def f(x):\n    y = range(x)\n    return list(y)\n"),
    ("L23", "def f(x):\n    for a in x:\n        x.append(a)\n"),
    ("L23", "def f(x):\n    for a in enumerate(x.y):\n        x.y[0] = a\n"),
    ("L25", "def f(x):\n    x.sort()\n"),
    ("L25", "def f(x):\n    y = x.append\n    return y\n"),
    ("L26", "class A:\n    def __init__(self):\n        self.real = 1\n"),
    ("L27", "def f(n):\n    return 2 ** n\n"),
    ("L27", "def f(n):\n    return n ** 65\n"),
    ("L27", "X = '%'\n"),
    ("L27", "X = '\\x41'\n"),
    ("L28", "class A:\n    def __init__(self):\n        return None\n"),
)


class Package(unittest.TestCase):
    def package_files(self):
        return sorted(name for name in os.listdir(FOLDER) if name != "__pycache__")

    def test_file_names(self):
        self.assertIn("__init__.py", self.package_files())
        self.assertIn("game.py", self.package_files())
        for name in self.package_files():
            self.assertEqual(file_faults(name), [])

    def source(self, name):
        with open(os.path.join(FOLDER, name), encoding="utf-8", newline="") as file:
            return file.read()

    def test_each_file(self):
        for name in self.package_files():
            self.assertEqual(faults(self.source(name)), [], name)

    def test_nothing_is_imported(self):
        for name in self.package_files():
            for node in ast.walk(ast.parse(self.source(name))):
                self.assertNotIsInstance(node, (ast.Import, ast.ImportFrom), name)


class Finder(unittest.TestCase):
    def test_wrong_code_is_found(self):
        for rule, source in WRONG:
            rules = [fault.split()[0] for fault in faults(source)]
            self.assertIn(rule, rules, source)

    def test_wrong_file_names_are_found(self):
        for name in ("notes.txt", "Game.py", "test_game.py", "tests.py", "filter.py", "enum.py", "site.py", "a-b.py"):
            self.assertEqual(len(file_faults(name)), 1, name)

    def test_plain_code_is_let_through(self):
        source = ("\"\"\"A file.\"\"\"\n\nFEW = (1, -2)\n\n\nclass Box:\n    def __init__(self, size):\n"
                  "        self.size = size\n\n    def grow(self):\n        self.size += 1\n\n\n"
                  "def f(xs):\n    for x in list(xs):\n        xs.append(x)\n    return [x for x in xs if x]\n")
        self.assertEqual(faults(source), [])


if __name__ == "__main__":
    unittest.main()
