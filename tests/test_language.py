import sys
import unittest
from pathlib import Path

HERE = Path(__file__).resolve().parent
sys.path.insert(0, str(HERE))

from language_rules import drawn_from, faults_between_files, faults_of_file, methods_in, names_at_top

PACKAGE = HERE.parent / "turnhall"


def package_texts():
    return {path.name: path.read_text("utf-8") for path in sorted(PACKAGE.glob("*.py"))}


class TestPackage(unittest.TestCase):
    def test_nothing_but_python_files_lies_there(self):
        names = [path.name for path in PACKAGE.iterdir() if path.name != "__pycache__"]
        self.assertEqual([name for name in names if not name.endswith(".py")], [])
        self.assertIn("__init__.py", names)

    def test_every_file_keeps_to_the_rules(self):
        texts = package_texts()
        own_methods = set().union(*[methods_in(text) for text in texts.values()])
        for name, text in texts.items():
            with self.subTest(file=name):
                self.assertEqual(faults_of_file(name, text, own_methods), [])

    def test_no_name_is_a_method_here_and_a_value_there(self):
        self.assertEqual(faults_between_files(list(package_texts().values())), [])

    def test_names_are_drawn_from_the_file_that_defines_them(self):
        texts = package_texts()
        for name, text in texts.items():
            for module, drawn in drawn_from(text):
                source = module.removeprefix("turnhall.") + ".py"
                self.assertIn(drawn, names_at_top(texts[source]), f"{name} draws {drawn} from {module}")

    def test_no_two_files_draw_from_one_another(self):
        left = {name: {module.removeprefix("turnhall.") + ".py" for module, drawn in drawn_from(text)}
                for name, text in package_texts().items()}
        self.assertEqual(left["__init__.py"], set())
        while left:
            free = [name for name, sources in left.items() if not sources & set(left)]
            self.assertTrue(free, f"drawn in a ring: {sorted(left)}")
            left = {name: sources for name, sources in left.items() if name not in free}


class TestRules(unittest.TestCase):
    BAD = (
        ("L2", "from os import path\n"),
        ("L2", "from .keys import is_key\n"),
        ("L2", "from . import keys\n"),
        ("L2", "from turnhall.keys import *\n"),
        ("L2", "def f():\n    from turnhall.keys import is_key\n    return is_key\n"),
        ("L3", "print('a')\n"),
        ("L4", "def f(*rest):\n    return rest\n"),
        ("L4", "def f(a, *, b):\n    return b\n"),
        ("L5", "class A:\n    b = 1\n"),
        ("L6", "import os\n"),
        ("L6", "def f(a):\n    assert a\n"),
        ("L6", "def f(a):\n    del a[0]\n"),
        ("L6", "def f():\n    a = b = 1\n    return a + b\n"),
        ("L7", "def f(a):\n    return all(b for b in a)\n"),
        ("L7", "def f(a):\n    return {b: 1 for b in a}\n"),
        ("L7", "def f(a):\n    return a / 2\n"),
        ("L7", "def f(a):\n    return a + 0.5\n"),
        ("L7", "def f(a):\n    return [*a]\n"),
        ("L8", "def f(a):\n    return iter(a)\n"),
        ("L8", "def f(a):\n    return chr(a)\n"),
        ("L10", "def f(a):\n" + "    a = a + 1\n" * 39 + "    return a\n"),
        ("L10", "A = 1  # " + "a" * 120 + "\n"),
        ("L10", "\n" * 401),
        ("L12", "def f(a):\n    _b = a\n    return _b\n"),
        ("L12", "def f(a):\n    return a.__class__\n"),
        ("L14", "A = 1  # \u00e4\n"),
        ("L14", "A = 1\t# a\n"),
        ("L15", "A = 1\nA = 2\n"),
        ("L15", "def f(hash):\n    return hash\n"),
        ("L15", "from turnhall.keys import is_key\ndef f(is_key):\n    return is_key\n"),
        ("L15", "class A:\n    pass\ndef f():\n    A = 1\n    return A\n"),
        ("L17", "A = 1  # what type it has\n"),
        ("L17", "class A:\n    def register(self):\n        return 1\n"),
        ("L18", "class A:\n    def b(self):\n        return 1\n    def b(self):\n        return 2\n"),
        ("L19", "def f(a):\n    raise a\n"),
        ("L19", "def f(a):\n    try:\n        return a[0]\n    except Exception:\n        return 0\n"),
        ("L20", "def f(a, b):\n    return a is b\n"),
        ("L22", "def f(a):\n    return list(a=a)\n"),
        ("L23", "def f(a):\n    b = a.items()\n    return b\n"),
        ("L23", "def f(a):\n    return range(a)\n"),
        ("L24", "def f(a):\n    b = set(a)\n    return len(b)\n"),
        ("L25", "def f(a):\n    a.sort()\n"),
        ("L26", "class A:\n    def __init__(self):\n        self.keys = 1\n"),
        ("L26", "class A:\n    def casefold(self):\n        return 1\n"),
        ("L27", "def f(n):\n    return 2 ** n\n"),
        ("L27", "A = '%'\n"),
        ("L28", "class A:\n    def __init__(self):\n        return None\n"),
    )
    GOOD = (
        "from __future__ import annotations\nfrom turnhall.keys import is_key\n",
        "class A(ValueError):\n    pass\n",
        "def f(a):\n    return sorted(set(a) - set([1]))\n",
        "def f(a, b):\n    return a in set(b) or a is None\n",
        "class A:\n    def __init__(self, a):\n        self.a = a\n\n    def b(self):\n        return self.a ** 2\n",
        "def f(a):\n    return [b for b in sorted(a.items(), reverse=True)] + list(range(3))\n",
    )

    def test_bad_code_is_found(self):
        for rule, text in self.BAD:
            with self.subTest(rule=rule, text=text[:60]):
                self.assertIn(rule, [found for found, line in faults_of_file("plain.py", text, set())])

    def test_good_code_is_let(self):
        for text in self.GOOD:
            with self.subTest(text=text):
                self.assertEqual(faults_of_file("plain.py", text, set()), [])

    def test_a_method_here_and_a_value_there_is_found(self):
        method = "class A:\n    def b(self):\n        return 1\n"
        value = "class C:\n    def __init__(self):\n        self.b = 1\n"
        self.assertEqual(faults_between_files([method, value]), [("L18", "b")])
        self.assertEqual(faults_between_files([method, method]), [])

    def test_file_names(self):
        for name in ("tests.py", "test_a.py", "Keys.py", "site.py", "filter.py", "enum.py", "a-b.py"):
            self.assertEqual(faults_of_file(name, "", set()), [("L14", 0)], name)
        for name in ("__init__.py", "__main__.py", "keys.py", "halls2.py"):
            self.assertEqual(faults_of_file(name, "", set()), [], name)


if __name__ == "__main__":
    unittest.main()
