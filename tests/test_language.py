"""Tests that the files of the package keep the rules of the language, and the interface of the document."""

import importlib
import inspect
import os
import unittest

from language import faults
from support import CLASSES, INTERFACE, Case

FOLDER = os.path.join(os.path.dirname(os.path.dirname(os.path.abspath(__file__))), "onlywith")


def package_files():
    """{file name: text} of the package; what is no text is left out, test_folder tells of it."""
    files = {}
    for name in sorted(os.listdir(FOLDER)):
        if name.endswith(".py"):
            with open(os.path.join(FOLDER, name), encoding="utf-8", newline="") as file:
                files[name] = file.read()
    return files


# Parts of files, each with the rule that it breaks.
WRONG = [
    ("L2", "from os import path\n"), ("L2", "from math import sin\n"), ("L2", "from onlywith.terms import *\n"),
    ("L2", "def one():\n    from onlywith.terms import filled\n"), ("L2", "from math import gcd as divisor\n"),
    ("L2", "ONE = 1\nfrom math import gcd\n"), ("L2", "from .terms import filled\n"), ("L16", "import math\n"),
    ("L16", "from onlywith.terms import absent\n"), ("L16", "from onlywith.probe import ONE\n\nTWO = 2\n"),
    ("L3", "ONE = len([1])\n"), ("L3", "for one in []:\n    pass\n"), ("L3", "ONE, TWO = 1, 2\n"), ("L15", "ONE = [[1]]\n"),
    ("L15", "ONE = 1\nONE = 2\n"), ("L15", "def one(all):\n    return all\n"), ("L15", "def one():\n    id = 3\n    return id\n"),
    ("L15", "from onlywith.terms import filled\n\n\ndef one(filled):\n    return filled\n"),
    ("L4", "def one():\n    return 1\n\n\n@one\ndef two():\n    return 2\n"), ("L6", "def one():\n    global two\n"),
    ("L6", "def one(two):\n    return two / 2\n"), ("L7", "ONE = 1.5\n"), ("L7", "ONE = 0x10\n"),
    ("L7", "def one(two):\n    return (three for three in two)\n"), ("L8", "def one():\n    print(1)\n"),
    ("L8", "def one(two):\n    return chr(two)\n"), ("L10", "ONE = 1\n" * 400), ("L10", "ONE = '" + "a" * 120 + "'\n"),
    ("L10", "def one():\n" + "    two = 1\n" * 40), ("L10", "ONE = 1"), ("L12", "def one():\n    two__ = 1\n    __two = two__\n"),
    ("L12", "def one():\n    for _ in []:\n        return _\n"), ("L14", "ONE = 1\t\n"), ("L14", "# \xe4\n"),
    ("L17", "def one(two):\n    return two.open()\n"), ("L17", "ONE = 'a type'\n"), ("L17", "def overloads():\n    return 1\n"),
    ("L18", "def one(two):\n    return two.three\n"), ("L19", "def one(two):\n    raise two\n"),
    ("L19", "def one():\n    try:\n        return 1\n    except TypeError:\n        return 2\n"),
    ("L19", "def one():\n    try:\n        return 1\n    except:\n        return 2\n"), ("L20", "def one(two):\n    return two is 3\n"),
    ("L23", "def one(two):\n    return zip(two, two)\n"), ("L23", "def one(two):\n    return len(two.items(), enumerate(two))\n"),
    ("L24", "def one(two):\n    return set(two)\n"), ("L24", "def one(two):\n    return list({three for three in two})\n"),
    ("L25", "def one(two):\n    return two.format_map(two)\n"), ("L26", "def one(two):\n    two.items = 3\n"),
    ("L27", "ONE = '100%'\n"), ("L27", "ONE = 'a\\x41'\n"), ("L27", "ONE = '._'\n"), ("L27", "ONE = '__all__'\n"),
    ("L7", "def one(*two):\n    return one(*one(3))\n"), ("L7", "def one(*two):\n    return one(*[three for three in two])\n"),
    ("L18", "class One:\n    def __init__(self):\n        self.two = 1\n\n    def two(self):\n        return 2\n"),
    ("L5", "class One:\n    @property\n    def two(self):\n        self.three = 3\n        return 3\n"),
    ("L5", "class One:\n    @property\n    def two(self):\n        return 3\n\n\ndef three(one):\n    one.two = 3\n"),
    ("L5", "class One:\n    @property\n    def two(self):\n        return 3\n\n\nclass Two:\n    def two(self):\n        return 3\n"),
    ("L5", "class One:\n    @property\n    def items(self):\n        return 3\n"), ("L5", "class One:\n    @staticmethod\n    def two():\n        return 3\n"),
    ("L18", "def one(two):\n    return two.__name__\n"), ("L18", "def one(two):\n    return two.__class__\n"),
    ("L18", "def one(two):\n    return two().__class__.__name__\n"),
    ("L27", "def one(two):\n    return 2 ** two\n"), ("L5", "class One(ValueError, metaclass=int):\n    pass\n"),
]


class Rules(Case):
    def test_package(self):
        self.gives(faults(package_files()), [])

    def test_right_probe(self):
        files = package_files()
        files["probe.py"] = '"""A type, %."""\n\nfrom math import gcd\n\n\ndef one(two):\n    return sorted({gcd(2, 3) for _ in two})\n'
        self.gives([fault for fault in faults(files) if fault[0] != "L27"], [])

    def test_wrong_probes(self):
        beside = {name: text for name, text in package_files().items() if name in ("bounds.py", "terms.py")}
        for rule, text in WRONG:
            files = {**beside, "probe.py": text}
            rules = [fault[0] for fault in faults(files) if fault[1].endswith(("probe.py", "probe"))]
            self.assertIn(rule, rules, text)

    def test_name_of_file(self):
        self.assertIn(("L1", "Probe.py", 1), faults({"Probe.py": "ONE = 1\n"}))

    def test_circle(self):
        files = {"a.py": "from onlywith.b import TWO\n\nONE = 1\n", "b.py": "from onlywith.a import ONE\n\nTWO = 1\n"}
        self.assertIn(("L16", "onlywith.a", 1), faults(files))

    def test_folder(self):
        for path, folders, files in os.walk(FOLDER):
            if os.path.basename(path) == "__pycache__":
                continue
            self.gives(("__init__.py" in files, [name for name in files if not name.endswith(".py")]), (True, []))

    def test_no_tests_within(self):
        self.gives([name for name in os.listdir(FOLDER) if name.startswith("test")], [])


class Interface(Case):
    def test_functions(self):
        for module, functions in INTERFACE.items():
            for name, names in functions.items():
                function = getattr(importlib.import_module("onlywith." + module), name)
                self.gives(tuple(inspect.signature(function).parameters), names)
                self.gives((inspect.isfunction(function), function.__module__), (True, "onlywith." + module))

    def test_classes(self):
        for name, (module, made_with, methods, properties) in CLASSES.items():
            kind = getattr(importlib.import_module("onlywith." + module), name)
            self.gives((inspect.isclass(kind), kind.__module__), (True, "onlywith." + module))
            self.gives(tuple(inspect.signature(kind).parameters), made_with)
            for method, names in methods.items():
                self.gives((inspect.isfunction(vars(kind)[method]), tuple(inspect.signature(vars(kind)[method]).parameters)), (True, ("self",) + names))
            for each in properties:
                self.gives((isinstance(vars(kind)[each], property), vars(kind)[each].fset), (True, None))

    def test_defaults(self):
        for name, method, parameter in (("Fair", "come", "till"), ("Ledger", "do", "source")):
            function = vars(getattr(importlib.import_module("onlywith." + CLASSES[name][0]), name))[method]
            self.gives(inspect.signature(function).parameters[parameter].default, None)


if __name__ == "__main__":
    unittest.main()
