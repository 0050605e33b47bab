"""The files of the package keep what a script can see of LANGUAGE.md; and the script sees it."""

import os
import unittest

from tests.language import findings

FOLDER = os.path.join(os.path.dirname(os.path.dirname(os.path.abspath(__file__))), "anypads")


def package_files():
    found = {}
    for name in sorted(os.listdir(FOLDER)):
        # Python makes this folder by itself; it is not in a checkout.
        if name != "__pycache__":
            with open(os.path.join(FOLDER, name), encoding="utf-8") as file:
                found[name] = file.read()
    return found


FAMILY = "class A:\n    def __init__(self):\n        pass\n\n\nclass B:\n    pass\n\n\nclass C(A):\n    pass\n\n\n"

GENERATOR = "def f(x):\n    yield x\n\n\n"

# Each text breaks one rule, in a file of its own.
BROKEN = [
    ("L2", "import os\n"), ("L2", "from os import path\n"), ("L2", "from . import words\n"), ("L2", "def f():\n    pass\n\n\nfrom math import gcd\n"),
    ("L2", "from math import gcd as g\n"), ("L2", "from math import floor\n"), ("L16", "from anypads.words import nothing\n"),
    ("L3", "A, B = 1, 2\n"), ("L3", "A = len('a')\n"), ("L3", "print\n"), ("L3", "if 1:\n    A = 1\n"), ("L15", "A = 1\nA = 2\n"),
    ("L4", "def f(x):\n    @x\n    def g():\n        pass\n"), ("L4", "class A:\n    @x\n    def f(self):\n        pass\n"),
    ("L5", "class A:\n    B = 1 + 1\n"), ("L5", "class A:\n    def __hash__(self):\n        return 1\n"),
    ("L5", "class A:\n    def __add__(self, other, more):\n        return 1\n"),
    ("L5", "class A:\n    def __eq__(self, other):\n        self.a = 1\n        return True\n"),
    ("L5", "class A:\n    def __getitem__(self, at):\n        return 1\n"),
    ("L5", "class A:\n    pass\n\n\nclass B(A):\n    def __radd__(self, other):\n        return 1\n"),
    ("L5", "def f(x):\n    return max(x)\n\n\nclass A:\n    def __lt__(self, other):\n        return True\n"),
    ("L5", "class A:\n    def __str__(self):\n        return str(1 + 1)\n"), ("L5", "def f(x):\n    return x.__len__()\n"),
    ("L6", "def f():\n    global A\n"), ("L6", "def f(x):\n    x += 1\n"), ("L6", "def f(x):\n    x\n"), ("L6", "def f(\n"),
    ("L6", "async def f():\n    pass\n"), ("L6", "def f(x):\n    x: int = 1\n"), ("L7", "def f(x):\n    return x / 2\n"),
    ("L7", "A = 1.5\n"), ("L7", "def f(x):\n    return any(y for y in x)\n"), ("L8", "def f(x):\n    return hash(x)\n"),
    ("L8", "def f(x):\n    return chr(x)\n"), ("L8", "def f(x):\n    return type(x)\n"),
    ("L10", "A = 1\n" * 400), ("L10", "A = '" + "a" * 120 + "'\n"), ("L10", "def f():\n" + "    pass\n" * 40), ("L10", "def f():\n\treturn 1\n"),
    ("L12", "def _cold():\n    pass\n"), ("L12", "A = '_wall'\n"), ("L12", "def f(__a):\n    pass\n"), ("L14", "A = '\u00e9'\n"),
    ("L15", "def len():\n    pass\n"), ("L15", "def f(id):\n    pass\n"), ("L15", "def f(x):\n    map = x\n"),
    ("L15", "class A:\n    pass\n\n\ndef f(A):\n    pass\n"), ("L16", "from anypads.broken import f\n\n\ndef g():\n    pass\n"),
    ("L17", "def f(law):\n    pass\n"), ("L17", "def f(x):\n    return x.elements\n"), ("L17", "A = 'an enum of'\n"), ("L17", "# Meta\n"),
    ("L18", "class A:\n    def a(self):\n        self.a = 1\n"), ("L18", "class A:\n    def a(self):\n        pass\n\n    def a(self):\n        pass\n"),
    ("L19", "def f(x):\n    raise x\n"), ("L19", "def f(x):\n    try:\n        pass\n    except Exception:\n        pass\n"),
    ("L19", "def f(x):\n    try:\n        pass\n    except:\n        pass\n"), ("L20", "def f(x, y):\n    return x is y\n"),
    ("L21", "def f(x: int):\n    pass\n"), ("L22", "def f(x):\n    return int(x, base=3)\n"), ("L23", "def f(x):\n    y = zip(x, x)\n"),
    ("L23", "def f(x):\n    return x.items()\n"), ("L23", "def f():\n    yield 1\n\n\nclass A:\n    def f(self):\n        pass\n"),
    ("L24", "def f(x):\n    y = set(x)\n"), ("L24", "def f(x):\n    for y in {1, 2}:\n        pass\n"), ("L25", "def f(x):\n    x.sort()\n"),
    ("L25", "def f(x):\n    return x.split(sep='a')\n"), ("L26", "class A:\n    def f(self):\n        self.items = 1\n"),
    ("L27", "def f(x):\n    return 2 ** x\n"), ("L27", "A = '100%'\n"), ("L27", "A = '\\x41'\n"), ("L27", "A = '__odd__'\n"), ("L27", "def f():\n    return f\"{'a'}\"\n"),
    ("L28", "class A:\n    def __init__(self):\n        return None\n"), ("L28", "class A:\n    def __len__(self):\n        return self.n\n"),
    ("L28", "class A:\n    def __str__(self):\n        return self.name\n"),
    ("L5", "class A:\n    def __bool__(self):\n        return len(self.rows) > 0\n"),
    ("L5", "class A:\n    def __bool__(self):\n        return self.rows\n"),
    ("L5", "class A:\n    def __iter__(self):\n        rows = [1]\n        return iter(rows)\n"),
    ("L5", "class A:\n    MOST = 1\n\n    def MOST(self):\n        pass\n"),
    ("L5", "class A:\n    MOST = 1\n\n\nclass B:\n    def __init__(self):\n        self.MOST = 1\n"),
    ("L7", "def f(x):\n    return f(*x.parts())\n\n\nclass A:\n    def parts(self):\n        pass\n"), ("L7", "def f(x):\n    return f(*f(x))\n"),
    ("L18", "class A:\n    def f(self):\n        return self.f\n"), ("L18", "def f(book):\n    return tuple(book.facts)\n"),
    ("L18", "def f(x):\n    return x.lost\n"), ("L18", "def f(x):\n    x.made = 1\n    return x.made\n"),
    ("L23", "def f(x):\n    return g(range(x))\n\n\ndef g(x):\n    return x\n"), ("L23", "def f(x):\n    return [range(x)]\n"),
    ("L6", "class A:\n    def __enter__(self):\n        return self\n\n    def __exit__(self, kind, value, trace):\n        self.x.pop()\n"),
    ("L6", "class A:\n    def __enter__(self):\n        return self\n"), ("L6", "def f(x):\n    with x as x.y:\n        pass\n"),
    ("L5", "class A:\n    def __init__(self):\n        self.x = 1\n\n    @property\n    def x(self):\n        return 1\n"),
    ("L23", GENERATOR + "def g():\n    rows = f(1)\n"), ("L23", GENERATOR + "def g():\n    return f(1)\n"),
    ("L23", GENERATOR + "def g():\n    return [x for x in f(1 + 1)]\n"), ("L23", GENERATOR + "def g():\n    return len(f(1))\n"),
    ("L23", "class A:\n    def split(self):\n        yield 1\n"),
    ("L23", "def f(xs):\n    for x in xs:\n        xs.append(x)\n"), ("L23", "def f(xs):\n    for x in xs:\n        xs[x] = 1\n"),
    ("L23", "def f(xs):\n    for x in xs:\n        del xs[x]\n"),
    ("L28", FAMILY + "class D(C):\n    def __init__(self):\n        A.__init__(self)\n"),
    ("L28", FAMILY + "class D(C, B):\n    def __init__(self):\n        B.__init__(self)\n"),
    ("L28", FAMILY + "class D(C):\n    def __init__(self, other):\n        C.__init__(other)\n"),
    ("L28", FAMILY + "class D(C):\n    def __init__(self):\n        super().__init__()\n"),
    ("L28", FAMILY + "class D(C):\n    def again(self):\n        C.__init__(self)\n"),
    ("L28", FAMILY + "class D(C):\n    def __init__(self):\n        self.made = C.__init__\n"),
    ("L28", FAMILY + "def again(it):\n    A.__init__(it)\n"),
]

WALKER = (
    "def f(x):\n    yield x\n\n\ndef h(x):\n    for y in f(x):\n        return y\n    return None\n\n\n"
    "class A:\n    def __init__(self, x):\n        self.x = x\n\n    def told(self):\n        yield self.x\n\n"
)
# Each file breaks L5 in what an operator or a property runs.
RUN = [
    WALKER + "    def __str__(self):\n        return ', '.join([y for y in self.told()])\n",
    WALKER + "    def __repr__(self):\n        for y in f(self.x):\n            return str(y)\n        return ''\n",
    WALKER + "    def __eq__(self, other):\n        return h(self.x) == h(other.x)\n",
    WALKER + "    def __len__(self):\n        return len([y for y in self.told()])\n",
    WALKER + "    def __add__(self, other):\n        return A(h(other.x))\n",
    WALKER + "    @property\n    def first(self):\n        return h(self.x)\n",
    WALKER + "    def __bool__(self):\n        return bool(self.held())\n\n    def held(self):\n        return h(self.x)\n",
    WALKER + "    def __neg__(self):\n        return B(self)\n\n\nclass B(A):\n    def __init__(self, x):\n        self.y = h(x)\n",
    WALKER + "    def __add__(self, other):\n        self.x.append(other)\n        return self\n",
    WALKER + "    def __add__(self, other):\n        return put(self.x, other)\n\n\ndef put(rows, row):\n    rows[0] = row\n",
    WALKER + "    def __add__(self, other):\n        return put(other)\n\n\ndef put(box):\n    box.x = 1\n",
    WALKER + "    @property\n    def first(self):\n        rows = self.x\n        rows.pop()\n        return rows\n",
    WALKER + "    def __and__(self, other):\n        return other(self)\n",
]
RUN_WELL = WALKER + '''    def __add__(self, other):
        return joined(self, other)

    def __iadd__(self, other):
        self.x.extend(list(other.told()))
        return self

    @property
    def rows(self):
        return list(self.x)

    @rows.setter
    def rows(self, value):
        self.x = [y for y in f(value)]

    def __call__(self, ask):
        return ask(h(self.x))


def joined(one, other):
    rows = [row for row in one.x]
    rows.append(len(other.x))
    made = A(rows)
    made.x = rows
    return made


class Keep:
    """A block."""

    def __init__(self, box):
        self.box = box

    def __enter__(self):
        self.x = list(self.box.x)
        return self.box

    def __exit__(self, kind, value, trace):
        box = self.box
        box.x = self.x
'''

SOUND = '''"""A file that keeps the rules."""

from anypads.words import is_name

MOST = -8
PAIRS = ((1, "a"), (2, None))


class Box:
    """A box."""

    SIZE = 4

    def __init__(self, rows=()):
        self.rows = tuple(rows)

    def __getitem__(self, at):
        return self.rows[at]

    def __iter__(self):
        raise TypeError("not iterated over")

    def __lt__(self, other):
        if not isinstance(other, Box):
            return NotImplemented
        return len(self.rows) < len(other.rows)

    def __str__(self):
        return " ".join([f"{k}:{row}" for k, row in enumerate(self.rows)])

    @staticmethod
    def made(thing):
        try:
            Box(thing)
        except KeyError:
            return False
        return is_name(thing) is not None and max([int(row) for row in thing], default=0) ** 2 > MOST

    def walked(self):
        for row in self.rows:
            yield row

    def __bool__(self):
        return bool(self.rows)

    def twice(self):
        found = []
        for row in self.walked():
            found.append(row)
        return Box(*found) if found else [row for row in self.walked() if row == Box.SIZE]


class Crate(Box):
    """A box that stands below another one."""


class Chest(Crate):
    """A box two steps below another one."""

    def __init__(self, rows):
        Crate.__init__(self, rows)
        self.shut = False
'''


class Language(unittest.TestCase):
    def test_the_package_keeps_the_rules(self):
        self.assertEqual(findings(package_files()), [])

    def test_the_package_holds_python_files_alone(self):
        names = [name for name in os.listdir(FOLDER) if name != "__pycache__"]
        self.assertTrue(all(name.endswith(".py") for name in names))
        self.assertIn("__init__.py", names)
        self.assertLessEqual(len(names), 100)

    def test_a_sound_file(self):
        self.assertEqual(findings({"words.py": "def is_name(value):\n    return True\n", "sound.py": SOUND}), [])

    def test_each_broken_rule_is_found(self):
        for rule, text in BROKEN:
            found = findings({"words.py": "def is_name(value):\n    return True\n", "broken.py": text})
            self.assertTrue(any(f" {rule} " in finding for finding in found), (rule, text, found))

    def test_what_operators_run(self):
        for text in RUN:
            found = findings({"broken.py": text})
            self.assertTrue(any("run by an operator or a property" in finding for finding in found), (text, found))
        self.assertEqual(findings({"sound.py": RUN_WELL}), [])

    def test_names_of_files(self):
        for name in ("Upper.py", "data.txt", "test_a.py", "len.py", "law_a.py", "a-b.py"):
            self.assertTrue(findings({name: ""}), name)

    def test_the_greatest_sizes(self):
        for text in ("# " + "a" * 118 + "\n", "# a\n" * 399, "def f():\n" + "    pass\n" * 39):
            self.assertEqual(findings({"a.py": text}), [])

    def test_imports_in_a_ring(self):
        one = "from anypads.b import g\n\n\ndef f():\n    pass\n"
        other = "from anypads.a import f\n\n\ndef g():\n    pass\n"
        self.assertEqual(len([finding for finding in findings({"a.py": one, "b.py": other}) if "L16" in finding]), 2)


if __name__ == "__main__":
    unittest.main()
