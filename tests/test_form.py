"""The package keeps to the form of LANGUAGE.md, as far as form.py can see it; and form.py sees what it is to see."""

import pathlib
import unittest

import form

FOLDER = pathlib.Path(__file__).resolve().parent.parent / "measurewise"


def sources():
    return {path.name: path.read_text(encoding="utf-8") for path in sorted(FOLDER.glob("*.py"))}


class Package(unittest.TestCase):
    def test_nothing_but_files_of_the_program_lies_in_it(self):
        others = [path.name for path in FOLDER.iterdir() if path.suffix != ".py" and path.name != "__pycache__"]
        self.assertEqual(others, [])
        self.assertIn("__init__.py", sources())

    def test_each_file_keeps_to_the_form(self):
        methods = form.methods_of(sources().values())
        for name, source in sources().items():
            with self.subTest(file=name):
                self.assertEqual(form.faults(name, source, methods), [])

    def test_no_name_is_a_method_here_and_a_value_there(self):
        self.assertEqual(set(form.methods_of(sources().values())) & set(form.values_of(sources().values())), set())

    def test_names_are_drawn_from_the_files_that_define_them(self):
        for name, source in sources().items():
            for module, drawn in form.draws_of(source):
                with self.subTest(file=name, drawn=drawn):
                    self.assertIn(drawn, form.defined_in(sources()[module + ".py"]))

    def test_no_two_files_draw_from_one_another(self):
        left = {name: {module + ".py" for module, drawn in form.draws_of(source)}
                for name, source in sources().items()}
        while left:
            free = [name for name, drawn in left.items() if not drawn & set(left)]
            self.assertNotEqual(free, [], left)
            left = {name: drawn for name, drawn in left.items() if name not in free}


class Sight(unittest.TestCase):
    GOOD = ("x = (1, 2)\n\n\ndef f(a, b=1):\n    c = [k * 2 for k in a if k > b]\n    return f\"{c}\"\n",
            "from measurewise.errors import BadName\n\n\nclass A(BadName):\n    \"\"\"Why.\"\"\"\n\n"
            "    def __init__(self, at):\n        self.at = at\n",
            "x = {1: 2}\n\n\nclass A:\n    pass\n\n\nclass B(A):\n    pass\n\n\ndef f(a):\n"
            "    if isinstance(a, (A, B)):\n        return A()\n"
            "    for k, v in a.items():\n        b = [v] + list(zip(k, v))\n"
            "    return x[a] if b in x else x.get(2)\n")
    BAD = ("import re\n", "from math import gcd\n", "from .errors import BadName\n", "x = 1 / 2\n", "x = 1.5\n",
           "x = f(1)\n", "x = 1\nx = 2\n", "print(1)\n", "def f(*a):\n    return a\n", "def f(a=[]):\n    return a\n",
           "def f(a):\n    return 2 ** a\n", "def f(a):\n    return a is f\n", "def f(a):\n    return type(a)\n",
           "def f(a):\n    return a.sort()\n", "def f(a):\n    return a._x\n", "def _f(a):\n    return a\n",
           "def f(a):\n    b = c = a\n    return b + c\n", "def f(list):\n    return list\n", "x = 'a%'\n",
           "def f(a):\n    assert a\n", "def f(a):\n    yield a\n", "def f(a):\n    return {k for k in a}\n",
           "def f(a):\n    return any(k for k in a)\n", "def f(a):\n    with a:\n        pass\n",
           "def f(a):\n    try:\n        return a()\n    except Exception:\n        return 1\n",
           "def f(a):\n    try:\n        return a()\n    except (KeyError, TypeError):\n        return 1\n",
           "def f(a):\n    return (b := a)\n", "def f(a):\n    return hash(a)\n", "def f(a):\n    return chr(a)\n",
           "def f(a):\n    for k in a:\n        pass\n    else:\n        pass\n", "x = 1\t\n", "x = 1  # type\n",
           "class A:\n    x = 1\n", "class A:\n    def __add__(self, b):\n        return b\n",
           "class A:\n    def f(self):\n        self.items = 1\n", "def f():\n" + "    pass\n" * 40,
           "x = '" + "a" * 120 + "'\n", "x = 1\n" * 401, "def f(a):\n    return f\"{a.b}\"\n",
           "class A:\n    pass\n\n\ndef f(a):\n    return [A]\n", "def f(a):\n    b = zip(a, a)\n    return b\n",
           "def f(a):\n    return a.items()\n", "def f(a):\n    return set(a)\n",
           "x = [1]\n\n\ndef f():\n    return x\n", "x = [1]\n\n\ndef f():\n    x.append(2)\n",
           "x = {1: 2}\n\n\ndef f(a):\n    x[a] = 2\n",
           "def f(a):\n    global b\n", "def f(a):\n    raise a\n", "class A:\n    pass\n\n\ndef f(A):\n    return A\n")

    def test_what_keeps_to_the_form(self):
        for source in self.GOOD:
            self.assertEqual(form.faults("good.py", source), [])

    def test_what_does_not(self):
        for source in self.BAD:
            with self.subTest(source=source[:60]):
                self.assertNotEqual(form.faults("bad.py", source), [])

    def test_names_of_files(self):
        for name in ("Bad.py", "test_bad.py", "tests.py", "sum.py", "bad-one.py"):
            self.assertNotEqual(form.faults(name, "x = 1\n"), [])


if __name__ == "__main__":
    unittest.main()
