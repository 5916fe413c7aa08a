"""The files of the package keep the rules on form that a test can see."""

import ast
import os
import re
import subprocess
import sys
import unittest

from tests import language

TOP = os.path.join(os.path.dirname(os.path.abspath(__file__)), "..")
PACKAGE = os.path.join(TOP, "meetlots")


def file_names():
    return sorted(name for name in os.listdir(PACKAGE) if name != "__pycache__")


def text_of(name):
    with open(os.path.join(PACKAGE, name), encoding="utf-8") as file:
        return file.read()


def tree_of(name):
    return ast.parse(text_of(name))


def defined_names():
    """The names that each module of the package defines, and does not import."""
    found = {}
    for name in file_names():
        names = []
        for node in tree_of(name).body:
            if isinstance(node, (ast.FunctionDef, ast.ClassDef)):
                names.append(node.name)
            elif isinstance(node, ast.Assign):
                names.append(node.targets[0].id)
        found["meetlots." + name[:-3]] = names
    return found


class FilesTest(unittest.TestCase):
    def test_names_of_files(self):
        self.assertIn("__init__.py", file_names())
        self.assertLessEqual(len(file_names()), 100)
        for name in file_names():
            self.assertTrue(name == "__init__.py" or re.fullmatch("[a-z][a-z0-9_]*[.]py", name), name)
            self.assertTrue(os.path.isfile(os.path.join(PACKAGE, name)), name)
            self.assertFalse(name.startswith(("test", "law_")), name)
            self.assertNotIn(name[:-3], language.BUILTINS + language.BARRED)

    def test_each_file(self):
        defined = defined_names()
        methods = {method for name in file_names() for method in language.methods_of(tree_of(name))}
        for name in file_names():
            with self.subTest(name=name):
                self.assertEqual(language.file_faults(text_of(name), defined, methods), [])

    def test_how_properties_are_used(self):
        self.assertEqual(language.property_faults({name: tree_of(name) for name in file_names()}), [])

    def test_no_name_is_a_property_and_a_method(self):
        found = [
            (node.name, bool(node.decorator_list)) for name in file_names() for owner in ast.walk(tree_of(name))
            if isinstance(owner, ast.ClassDef) for node in owner.body if isinstance(node, ast.FunctionDef)
        ]
        methods = {name for name, is_property in found if not is_property}
        for name, is_property in found:
            self.assertFalse(is_property and (name in methods or name in language.METHODS), name)

    def test_nothing_but_a_docstring_in_the_package_itself(self):
        body = tree_of("__init__.py").body
        self.assertEqual([type(node) for node in body], [ast.Expr])

    def test_no_two_files_import_from_each_other(self):
        needs = {}
        for name in file_names():
            modules = {node.module for node in ast.walk(tree_of(name)) if isinstance(node, ast.ImportFrom)}
            needs["meetlots." + name[:-3]] = modules
        done = set()
        while len(done) < len(needs):
            ready = [name for name, modules in needs.items() if name not in done and modules <= done]
            self.assertTrue(ready, "some files import from each other")
            done.update(ready)

    def test_no_warnings(self):
        for name in file_names():
            told = subprocess.run(
                [sys.executable, "-W", "error", "-c", "import sys; compile(sys.stdin.read(), 'file', 'exec')"],
                input=text_of(name), text=True, capture_output=True, check=False,
            )
            self.assertEqual((told.returncode, told.stderr), (0, ""), name)

    def test_no_state_beside_what_is_returned(self):
        for name in file_names():
            for node in tree_of(name).body:
                if isinstance(node, ast.Assign):
                    self.assertFalse(any(isinstance(item, (ast.List, ast.Dict)) for item in ast.walk(node)), name)


# A class with a property b; the setter of one; a method that assigns an attribute of that name.
READ = "class A:\n    @property\n    def b(self):\n        return self.n\n\n"
SET = "    @b.setter\n    def b(self, value):\n        self.n = value\n\n"
STORE = "    def __init__(self, b):\n        self.b = b\n"


class ChecksTest(unittest.TestCase):
    """The checks themselves see what they are for."""

    BAD = [
        "import os\n", "from os import path\n", "from .lots import is_lot\n", "from meetlots.lots import meet as m\n",
        "from meetlots.lots import *\n", "from meetlots.lots import is_lot\n", "x = []\n", "print(1)\n",
        "x, y = 1, 2\n", "x = 1\nx = 2\n", "x = 1.5\n", "for k in (1, 2):\n    pass\n",
        "def f(a):\n    return a / 2\n", "def f(a):\n    return 0.5\n", "def f(a):\n    a /= 2\n",
        "def f(list):\n    return 1\n", "def f(a):\n    sum = 1\n", "def len(a):\n    return 1\n",
        "def f(a):\n    return map(f, a)\n", "def f(a):\n    return eval(a)\n", "def f(a):\n    return type(a)\n",
        "def f(a):\n    return open(a)\n", "def f(a):\n    return hash(a)\n", "def f(a):\n    return a is f\n",
        "def f(a):\n    return a is 1\n", "def f(a):\n    return set(a)\n", "def f(a):\n    return {x for x in a}\n",
        "def f(a):\n    return zip(a, a)\n", "def f(a):\n    x = enumerate(a)\n",
        "def f(a):\n    return a.format(1)\n", "def f(a):\n    return a.encode()\n",
        "def f(a):\n    return any(x for x in a)\n", "def f(a):\n    return '%s' + a\n",
        "def f(a):\n    return '__a__'\n", "def f(a):\n    global b\n", "def f(a):\n    with a:\n        pass\n",
        "def f(a):\n    yield a\n", "def f(a):\n    import os\n", "def f(_wallet):\n    return 1\n",
        "def f(__a):\n    return 1\n", "def f(a):\n    register = 1\n", "async def f(a):\n    return 1\n",
        "@f\ndef g(a):\n    return 1\n", "class A:\n    def __hash__(self):\n        return 1\n",
        "class A:\n    def f(self, A):\n        return 1\n", "def f(a):\n    for _ in a:\n        return _\n",
        "def f(a):\n    return len(obj=a)\n", "def f(a):\n    return a.split(sep='a')\n", "def f(a):\n\treturn 1\n",
        "def f(a):\n    return 1  # \u20ac\n", "x = 1  #" + "-" * 120 + "\n", "x = 1\n" + "# -\n" * 399, "x = 1",
        "def f(a):\n" + "    a = 1\n" * 40, "def f(a):\n    return type(a[0]).__name__\n",
        "def f(a):\n    return a.__name__\n", "def f(a):\n    return a.dig()\n",
        "class A:\n    def __getitem__(self, at):\n        return at\n",
        "class A:\n    def __str__(self):\n        return f(self)\n",
        "class A:\n    def __len__(self):\n        return self.n\n",
        "class A:\n    @property\n    def b(self):\n        self.n = 1\n        return self.n\n",
        "class A:\n    def __eq__(self, other):\n        pass\n",
        "class A:\n    @staticmethod\n    def b():\n        return 1\n",
        "@property\ndef b(self):\n    return 1\n",
        "class A:\n    @property\n    def b(self, n):\n        return n\n",
        "class A:\n    def b(self):\n        return 1\n\n    def b(self):\n        return 2\n",
        READ + "    @b.getter\n    def b(self):\n        return 1\n",
        READ + "    @property\n    def b(self):\n        return 1\n",
        READ + "    def b(self, value):\n        self.n = value\n",
        READ + "    @b.setter\n    def c(self, value):\n        self.n = value\n",
        READ + "    @b.setter\n    def b(self):\n        self.n = 1\n",
        READ + "    @b.setter\n    def b(self, value=1):\n        self.n = value\n",
        READ + "    @b.setter\n    def b(self, value, n):\n        self.n = value\n",
        READ + "    @property\n    @b.setter\n    def b(self, value):\n        self.n = value\n",
        READ + SET + SET,
        "class A:\n" + SET, "class A:\n" + SET + READ[9:],
        "class A:\n    def b(self):\n        return 1\n\n" + SET,
        "class A(AttributeError):\n    def f(self):\n        return 1\n",
        "def f(a):\n    return AttributeError\n", "def f(a):\n    return AttributeError('a')\n",
        "def f(a):\n    raise AttributeError\n",
        "def f(a):\n    try:\n        return a()\n    except AttributeError:\n        return 1\n",
    ]

    GOOD = [
        '"""Words."""\n', "x = 10 ** 30\n", "x = (1, 2)\n",
        "from meetlots.lots import meet\n\n\ndef f(a):\n    return meet(1, a)\n",
        "def f(a):\n    return [x for x in range(3) if a is not None]\n",
        "def f(a):\n    return sorted(set(a)), len(set(a))\n", "def f(a):\n" + "    a = 1\n" * 39,
        "class A:\n    def __init__(self, n):\n        super().__init__('n')\n        self.n = n\n",
        "def f(a):\n    return type(a).__name__\n",
        "class A:\n    def __len__(self):\n        return len(self.n)\n",
        READ, READ + SET, READ + "    @b.setter\n    def b(self, value):\n        raise AttributeError('b')\n",
        READ + "    def c(self):\n        return 1\n\n" + SET,
    ]

    # What whole packages have, file by file, with what is told of the use of properties there.
    PACKAGES = [
        ([READ], 0), ([READ, "class B:\n" + STORE.replace("b", "n")], 0), ([READ + SET, "class B:\n" + STORE], 0),
        ([READ, "class B:\n" + STORE], 1), (["class B:\n" + STORE, READ], 1), ([READ, "class B:\n" + STORE * 2], 2),
        ([READ, "def f(a):\n    a.b = 1\n"], 1), ([READ, "def f(a):\n    a.b += 1\n"], 1),
        ([READ, "def f(a):\n    a.c, (a.b, a.c) = a\n"], 1), ([READ, "def f(a):\n    a.b[0] = 1\n"], 0),
        ([READ + SET, "def f(a):\n    a.b = 1\n    a.b += 1\n"], 0),
        ([READ + SET, READ.replace("A", "B"), "def f(a):\n    a.b = 1\n"], 1),
        ([READ + SET, READ.replace("A", "B(A)"), "class C:\n" + STORE], 1),
        ([READ + SET, (READ + SET).replace("A", "B"), "class C:\n" + STORE], 0),
        ([READ + SET, "def f(a):\n    del a.b\n"], 1), ([READ, "def f(a):\n    return a.b\n"], 0),
        ([READ, "def f(a):\n    return a.b(1)\n"], 1), ([READ, "def f(a):\n    return A.b\n"], 1),
        ([READ + SET, "def f(a):\n    for k in a:\n        k.b = 1\n"], 1),
        ([READ + SET, "def f(a):\n    for k.b in a:\n        pass\n"], 1),
        ([READ + SET, "def f(a):\n    for k in a:\n        k.n = k.b\n"], 0),
        ([READ.replace("A", "A(ValueError)")], 1), (["class B(Exception):\n    pass\n", READ.replace("A", "A(B)")], 1),
        (["class B:\n    pass\n", READ.replace("A", "A(B)")], 0),
        ([READ + SET, "class B:\n" + STORE + "\n    def c(self):\n        return 1\n", "def f(a):\n    B.c(a)\n"], 1),
        ([READ + SET, "class B:\n    def c(self):\n        return 1\n", "def f(a):\n    B.c(a)\n"], 0),
    ]

    def test_bad_ones(self):
        for text in self.BAD:
            with self.subTest(text=text[:80]):
                self.assertNotEqual(language.file_faults(text, {"meetlots.lots": ["meet"]}), [])

    def test_good_ones(self):
        for text in self.GOOD:
            with self.subTest(text=text):
                self.assertEqual(language.file_faults(text, {"meetlots.lots": ["meet"]}), [])

    def test_packages(self):
        for texts, many in self.PACKAGES:
            with self.subTest(texts=texts):
                trees = {f"{place}.py": ast.parse(text) for place, text in enumerate(texts)}
                faults = language.property_faults(trees)
                self.assertEqual(len(faults), many, faults)

    def test_where_a_property_is_assigned(self):
        trees = {"boards.py": ast.parse(READ), "errors.py": ast.parse("class B:\n" + STORE)}
        told = [("L5", "errors.py", 3, "a property that is given has a setter: b")]
        self.assertEqual(language.property_faults(trees), told)


if __name__ == "__main__":
    unittest.main()
