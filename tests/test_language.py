"""The package keeps to LANGUAGE.md, as far as a look at its files can tell."""

import pathlib
import re
import unittest

from tests.language import faults, mixed_names

PACKAGE = pathlib.Path(__file__).resolve().parent.parent / "roadnet"

OUTSIDE = (
    ("L2", "import os\n"),
    ("L2", "from roadnet.errors import *\n"),
    ("L2", "from .errors import BadRoad\n"),
    ("L3", "print(1)\n"),
    ("L4", "def f(*things):\n    return things\n"),
    ("L4", "def f(one, *, two):\n    return two\n"),
    ("L5", "class A:\n    many = 1\n"),
    ("L6", "def f(x):\n    assert x\n"),
    ("L6", "def f(x):\n    with x:\n        pass\n"),
    ("L6", "def f():\n    a = b = 1\n    return a + b\n"),
    ("L6", "def f(xs):\n    for x in xs:\n        pass\n    else:\n        return 1\n"),
    ("L6", "def f():\n    \"words\"\n    return 1\n"),
    ("L7", "def f(x):\n    return x / 2\n"),
    ("L7", "HALF = 0.5\n"),
    ("L7", "def f(xs):\n    return {x: 1 for x in xs}\n"),
    ("L7", "def f(xs):\n    return any(x for x in xs)\n"),
    ("L7", "def f(self):\n    return f\"{self.turn}\"\n"),
    ("L8", "def f(x):\n    return hash(x)\n"),
    ("L8", "def f(x):\n    print(x)\n"),
    ("L10", "def f():\n" + "    pass\n" * 40),
    ("L10", "A = 1\n" * 401),
    ("L10", "A = \"" + "a" * 120 + "\"\n"),
    ("L12", "def f(xs):\n    return [1 for _ in xs]\n"),
    ("L12", "def f(self):\n    self._turn = 1\n"),
    ("L14", "A = \"\u00e4\"\n"),
    ("L14", "def f():\n\treturn 1\n"),
    ("L15", "A = 1\nA = 2\n"),
    ("L15", "def f(id):\n    return 1\n"),
    ("L17", "# a type of thing\n"),
    ("L17", "def f(x):\n    return getattr(x, \"a\")\n"),
    ("L17", "class A:\n    def open(self):\n        pass\n"),
    ("L19", "def f():\n    try:\n        f()\n    except Exception:\n        pass\n"),
    ("L19", "def f():\n    raise ValueError\n"),
    ("L20", "def f(x, y):\n    return x is y\n"),
    ("L21", "def f(x: int):\n    return x\n"),
    ("L22", "def f(x):\n    return int(x, base=2)\n"),
    ("L23", "def f(x):\n    pairs = x.items()\n    return list(pairs)\n"),
    ("L24", "def f(x):\n    seen = set(x)\n    return len(seen)\n"),
    ("L25", "def f(x):\n    x.sort()\n"),
    ("L26", "class A:\n    def __init__(self):\n        self.items = 1\n"),
    ("L27", "A = \"50%\"\n"),
)


class TestLanguage(unittest.TestCase):
    def test_each_file_of_the_package_keeps_to_it(self):
        files = sorted(PACKAGE.glob("*.py"))
        self.assertIn("errors.py", [file.name for file in files])
        for file in files:
            with self.subTest(file=file.name):
                self.assertEqual(faults(file.read_text("utf-8")), [])

    def test_no_name_is_a_method_and_a_value(self):
        self.assertEqual(mixed_names([file.read_text("utf-8") for file in PACKAGE.glob("*.py")]), [])

    def test_only_plain_files_lie_in_the_package(self):
        for entry in PACKAGE.iterdir():
            if entry.name != "__pycache__":
                with self.subTest(entry=entry.name):
                    self.assertTrue(re.fullmatch(r"(__init__|__main__|[a-z][a-z0-9_]*)\.py", entry.name))

    def test_what_lies_outside_is_found(self):
        for rule, text in OUTSIDE:
            with self.subTest(rule=rule, text=text):
                self.assertIn(rule, [found for found, line in faults(text)])

    def test_a_name_that_is_both_is_found(self):
        one = "class A:\n    def told(self):\n        pass\n"
        other = "class B:\n    def __init__(self):\n        self.told = 1\n"
        self.assertEqual(mixed_names([one, other]), ["told"])


if __name__ == "__main__":
    unittest.main()
