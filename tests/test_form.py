"""The form that LANGUAGE.md asks of the package's files; and of promise 1: no clock, chance or files."""

import os
import re
import unittest

from tests.form import faults

ROOT = os.path.dirname(os.path.dirname(os.path.abspath(__file__)))
PACKAGE = os.path.join(ROOT, "planwell")


def packed_files():
    packed = {}
    for name in sorted(os.listdir(PACKAGE)):
        if name.endswith(".py"):
            with open(os.path.join(PACKAGE, name), encoding="utf-8", newline="") as file:
                packed["planwell." + name[:-3]] = file.read()
    return packed


class Package(unittest.TestCase):
    def test_nothing_but_plain_files(self):
        for name in os.listdir(PACKAGE):
            if name != "__pycache__":
                self.assertTrue(name == "__init__.py" or re.fullmatch(r"[a-z][a-z0-9_]*\.py", name), name)
        self.assertIn("__init__.py", os.listdir(PACKAGE))

    def test_every_file_keeps_to_the_form(self):
        packed = packed_files()
        self.assertIn("planwell.words", packed)
        for module in packed:
            self.assertEqual(faults(module, packed), [], module)


class Reader(unittest.TestCase):
    def rules(self, source, others=()):
        packed = dict(others)
        packed["planwell.sample"] = source
        return [rule for rule, line in faults("planwell.sample", packed)]

    def test_what_keeps_to_the_form(self):
        self.assertEqual(self.rules('"""Why."""\n\nA = (1, "b")\n\n\ndef f(x, y=1):\n    return f"{x}" + str(y)\n'), [])

    def test_what_does_not(self):
        for rule, source in [
            ("L2", "from math import gcd\n"), ("L6", "import time\n"), ("L2", "def f():\n    from os import path\n"),
            ("L3", "A = len(b)\n"), ("L3", "f(1)\n"), ("L4", "def f(*x):\n    return x\n"),
            ("L5", "class A:\n    b = 1\n"), ("L6", "def f():\n    a = b = 1\n"), ("L6", "def f():\n    yield 1\n"),
            ("L6", "def f():\n    'words'\n"), ("L6", "def f(a):\n    del a\n"), ("L7", "A = 1.5\n"),
            ("L7", "def f(a):\n    return a / 2\n"), ("L7", "def f(a):\n    return f'{a.b}'\n"),
            ("L8", "def f(a):\n    return hash(a)\n"), ("L8", "def f(a):\n    return chr(a)\n"),
            ("L10", "A = 1" + " " * 120 + "\n"), ("L10", "def f():\n" + "    pass\n" * 40), ("L12", "def f(_):\n    pass\n"),
            ("L14", "A = '\u00e9'\n"), ("L15", "A = 1\nA = 2\n"), ("L15", "def f(next):\n    pass\n"),
            ("L17", "# the type\n"), ("L17", "def f(a):\n    return a.mro\n"),
            ("L19", "def f():\n    try:\n        f()\n    except:\n        pass\n"), ("L20", "def f(a):\n    return a is f\n"),
            ("L21", "def f(a: int):\n    pass\n"), ("L23", "def f(a):\n    b = zip(a, a)\n"),
            ("L15", "A = [1]\n\n\ndef f():\n    A[0] = 2\n"), ("L15", "A = {}\n\n\ndef f():\n    return A\n"),
            ("L18", "class A:\n    def b(self):\n        self.b = 1\n"), ("L24", "def f(a):\n    b = set(a)\n"),
            ("L24", "def f(a):\n    return {1, a}\n"), ("L26", "class A:\n    def b(self):\n        self.keys = 1\n"),
            ("L25", "def f(a):\n    return a.title()\n"),
            ("L27", "A = '%'\n"), ("L27", "def f(a):\n    return 2 ** a\n"),
        ]:
            self.assertIn(rule, self.rules(source), source)

    def test_imports_of_one_another(self):
        other = {"planwell.other": "from planwell.sample import f\n\n\ndef g():\n    pass\n"}
        self.assertIn("L16", self.rules("from planwell.other import g\n\n\ndef f():\n    pass\n", other))
        self.assertIn("L16", self.rules("from planwell.other import f\n", other))


if __name__ == "__main__":
    unittest.main()
