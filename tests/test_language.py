"""The package keeps the rules of LANGUAGE.md that a script can see, and the script sees what breaks them."""

import os
import unittest
from tests.language_rules import PACKAGE, findings

ROOT = os.path.dirname(os.path.dirname(os.path.abspath(__file__)))

# For each rule, files that break it.
BROKEN = {
    "L1": ({"odd-name.py": ""},),
    "L2": ({"a.py": "import math\n"}, {"a.py": "from math import sqrt\n"}, {"a.py": "from math import gcd as g\n"},
           {"a.py": "from .b import c\n"}, {"a.py": "from os import path\n"}, {"a.py": "def f():\n    from math import gcd\n"},
           {"a.py": "from itertools import product\n\n\ndef f(x):\n    return product(x, x)\n"},
           {"a.py": "from math import gcd\n\n\ndef f(x):\n    return f(gcd)\n"}),
    "L3": ({"a.py": "X = len('a')\n"}, {"a.py": "X, Y = 1, 2\n"}, {"a.py": "for X in (1, 2):\n    pass\n"},
           {"a.py": "X = [k for k in (1, 2)]\n"}),
    "L4": ({"a.py": "def f(x=[]):\n    return x\n"}, {"a.py": "def g(f):\n    return f\n\n\n@g\ndef h():\n    return 1\n"}),
    "L5": ({"a.py": "class A:\n    def __hash__(self):\n        return 1\n"}, {"a.py": "class A:\n    print(1)\n"}),
    "L6": ({"a.py": "def f():\n    global x\n"}, {"a.py": "def f(x):\n    try:\n        x()\n    except:\n        pass\n"},
           {"a.py": "async def f():\n    return 1\n"}, {"a.py": "def f(x):\n    x == 1\n"}),
    "L7": ({"a.py": "X = 1.5\n"}, {"a.py": "def f(x):\n    return x / 2\n"},
           {"a.py": "def f(x):\n    return f(k for k in x)\n"}, {"a.py": "def f(x):\n    return bytes(x)\n"}),
    "L8": ({"a.py": "def f(x):\n    return hash(x)\n"}, {"a.py": "def f(x):\n    return getattr(x, 'y')\n"},
           {"a.py": "def f(x):\n    return chr(x)\n"}, {"a.py": "def f(x):\n    return type(x)\n"},
           {"a.py": "def f(x):\n    return pow(x, 2)\n"}, {"a.py": "def f(x):\n    return x.__dict__\n"}),
    "L9": ({"a.py": "def f(x):\n    print(x)\n"},),
    "L10": ({"a.py": "X = 1\n" * 400}, {"a.py": "X = " + "1" * 120 + "\n"},
            {"a.py": "def f(x):\n" + "    x += 1\n" * 40}, {"a.py": "def f(x):\n\treturn x\n"}),
    "L12": ({"a.py": "def f(_wall_x):\n    return 1\n"}, {"a.py": "def f(_):\n    return _\n"},
            {"a.py": "class _A:\n    pass\n"}, {"a.py": "def f(__x):\n    return 1\n"}),
    "L13": ({"a.py": "def f():\n    x = {1, 2, 3}\n    return 1 in x\n"},
            {"a.py": "def f(g):\n    return g(lambda x: x, lambda x: -x)\n"}),
    "L14": ({"a.py": "# \u00e9\n"}, {"test_a.py": ""}, {"len.py": ""}, {"A.py": ""}),
    "L15": ({"a.py": "X = 1\nX = 2\n"}, {"a.py": "def f(min):\n    return min\n"}, {"a.py": "X = [[1]]\n"},
            {"a.py": "from math import gcd\n\n\ndef f(gcd):\n    return gcd\n"},
            {"a.py": "X = [1]\n\n\ndef f():\n    X.append(1)\n"}, {"a.py": "X = {1: 2}\n\n\ndef f():\n    X[1] = 3\n"},
            {"a.py": "def f():\n    class A:\n        pass\n"}),
    "L16": ({"a.py": "from rulertrees.b import f\n", "b.py": "from rulertrees.c import f\n", "c.py": "def f():\n    return 1\n"},
            {"a.py": "from rulertrees.b import f\n\n\ndef g():\n    return f()\n",
             "b.py": "from rulertrees.a import g\n\n\ndef f():\n    return g()\n"}),
    "L17": ({"a.py": "def f(law):\n    return law\n"}, {"a.py": "def f(x):\n    return x.register\n"},
            {"a.py": "def vars():\n    return 1\n"}, {"a.py": "X = 'Enum'\n"}, {"a.py": "X = 'mydataclasses'\n"}),
    "L18": ({"a.py": "class A:\n    pass\n\n\ndef f():\n    return [A]\n"},),
    "L19": ({"a.py": "def f(x):\n    raise x\n"}, {"a.py": "def f(x):\n    try:\n        x()\n    except Exception:\n        pass\n"},
            {"a.py": "def f(x):\n    raise\n"}, {"a.py": "def f(x):\n    raise ValueError\n"}),
    "L20": ({"a.py": "def f(x, y):\n    return x is y\n"}, {"a.py": "def f(x):\n    return x is not f\n"}),
    "L21": ({"a.py": "def f(x: 'int'):\n    return x\n"}, {"a.py": "def f():\n    x: int\n"}),
    "L22": ({"a.py": "def f(x):\n    return int(x, base=2)\n"}, {"a.py": "def f(x):\n    return 'a b'.split(sep=x)\n"},
            {"a.py": "def f(x):\n    return x(len)\n"}),
    "L23": ({"a.py": "def f(x):\n    return zip(x, x)\n"}, {"a.py": "def f(x):\n    return x.items()\n"},
            {"a.py": "def f(x):\n    for k in x:\n        x.append(k)\n"}, {"a.py": "def f(x):\n    return f(map(len, x))\n"},
            {"a.py": "def g():\n    yield 1\n\n\ndef f():\n    return g()\n"}),
    "L24": ({"a.py": "def f(x):\n    return set(x)\n"}, {"a.py": "def f(x):\n    return frozenset(x)\n"},
            {"a.py": "def f(x):\n    for k in {1, 2}:\n        x(k)\n"}),
    "L25": ({"a.py": "def f(x):\n    return x.union(x)\n"}, {"a.py": "def f(x):\n    return x.append\n"}),
    "L26": ({"a.py": "def f(x):\n    x.keys = 1\n"}, {"a.py": "class A:\n    def to_bytes(self):\n        return 1\n"}),
    "L27": ({"a.py": "def f(x):\n    return 2 ** x\n"}, {"a.py": "X = '5 %'\n"}, {"a.py": "X = '\\x41'\n"},
            {"a.py": "X = '__odd__'\n"}, {"a.py": "X = " + "\\\n".join(["9" * 100] * 1) + "0" * 900 + "\n"},
            {"a.py": "def f(x):\n    return 1if x else 2\n"}, {"a.py": "X = 'a._'\n"}),
    "L28": ({"a.py": "class A:\n    def __init__(self):\n        return None\n"}, {"a.py": "def __len__(x):\n    return 1\n"}),
}
# What the rules allow.
FINE = (
    "from math import gcd\nfrom itertools import product\n\nX = (1, (2, 'a'))\nY = [1, -2]\n\n\n"
    "def f(x, y=1):\n    for a, b in product(x, y):\n        x = gcd(a, b)\n    return tuple(k for k in x if k in X)\n",
    "class Bad(ValueError):\n    def __init__(self, at):\n        self.at = at\n\n\n"
    "def f(x):\n    try:\n        return x[0]\n    except IndexError:\n        raise Bad(x)\n",
    "def f(x):\n    seen = set()\n    for at, k in enumerate(x):\n        if k not in seen:\n            seen.add((at, k))\n"
    "    return sorted(seen), x is None, [*x, 1], x[::-1], 2 ** 64\n",
    "def f(x):\n    out = [k for k in x.values()]\n    out.sort(key=lambda row: row[0])\n    return ' '.join(map(str, out))\n",
)


def package_sources():
    folder = os.path.join(ROOT, PACKAGE)
    sources = {}
    for name in sorted(os.listdir(folder)):
        if name != "__pycache__":
            with open(os.path.join(folder, name), encoding="utf-8") as stream:
                sources[name] = stream.read()
    return sources


class LanguageTest(unittest.TestCase):

    def test_the_package_keeps_the_rules(self):
        self.assertEqual(findings(package_sources()), [])

    def test_the_script_sees_what_breaks_a_rule(self):
        for rule, packages in BROKEN.items():
            for sources in packages:
                found = {line.split()[0] for line in findings({"__init__.py": "", **sources})}
                self.assertIn(rule, found, sources)

    def test_the_script_lets_pass_what_is_allowed(self):
        for text in FINE:
            self.assertEqual(findings({"__init__.py": "", "a.py": text}), [], text)

    def test_the_folder_has_just_files(self):
        for name in os.listdir(os.path.join(ROOT, PACKAGE)):
            if name != "__pycache__":
                self.assertTrue(name.endswith(".py"), name)

    def test_each_file_has_docstrings(self):
        for name, text in package_sources().items():
            self.assertTrue(text.startswith('"""'), name)


if __name__ == "__main__":
    unittest.main()
