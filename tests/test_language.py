import pathlib
import re
import unittest

from language import PACKAGE, drawn_from, faults_of, names_defined

FOLDER = pathlib.Path(__file__).resolve().parent.parent / PACKAGE

BROKEN = [
    ("L2", "import time\n"),
    ("L2", "from random import choice\n"),
    ("L2", "from stepgrove.errors import *\n"),
    ("L2", "from .errors import NoTree\n"),
    ("L3", "print(1)\n"),
    ("L3", "X = [k for k in (1, 2)]\n"),
    ("L4", "def f(*xs):\n    return xs\n"),
    ("L5", "class C(ValueError):\n    x = 1\n"),
    ("L6", "def f(x):\n    assert x\n"),
    ("L6", "def f(x):\n    'words'\n    return x\n"),
    ("L7", "def f(x):\n    return x / 2\n"),
    ("L7", "def f(x):\n    return 1.5\n"),
    ("L7", "def f(x):\n    return sum(y for y in x)\n"),
    ("L8", "def f(x):\n    return hash(x)\n"),
    ("L10", "def f(x):\n" + "    x = x + 1\n" * 40),
    ("L10", "# " + "x" * 120 + "\n"),
    ("L12", "def _f(x):\n    return x\n"),
    ("L14", "X = 'caf\u00e9'\n"),
    ("L15", "def f(hash):\n    return hash\n"),
    ("L15", "X = 1\nX = 2\n"),
    ("L15", "X = {'a': [1]}\n"),
    ("L15", "X = ([1], 2)\n"),
    ("L17", "# the type of it\n"),
    ("L17", "def f(x):\n    return open(x)\n"),
    ("L19", "def f(x):\n    try:\n        return x\n    except Exception:\n        return 0\n"),
    ("L19", "def f(x):\n    try:\n        return g(x)\n    except ValueError:\n        return 0\n"),
    ("L19", "def f(x):\n    try:\n        y = 1\n        return int(x)\n    except ValueError:\n        return 0\n"),
    ("L20", "def f(x, y):\n    return x is y\n"),
    ("L21", "def f(x: int):\n    return x\n"),
    ("L22", "def f(x):\n    return int(x, base=7)\n"),
    ("L22", "def f(x):\n    return sorted(x, strict=True)\n"),
    ("L23", "def f(x):\n    y = zip(x, x)\n    return list(y)\n"),
    ("L23", "def f(x):\n    return x.items()\n"),
    ("L24", "def f(x):\n    y = set(x)\n    return y\n"),
    ("L25", "def f(x):\n    x.sort()\n    return x\n"),
    ("L27", "def f(x):\n    return 2 ** x\n"),
    ("L28", "class C:\n    def __init__(self):\n        return None\n"),
    ("L28", "class C:\n    def __len__(self):\n        self.x = 1\n        return 1\n"),
]


class FormOfTheCode(unittest.TestCase):
    def test_package_keeps_to_the_language(self):
        files = sorted(FOLDER.glob("*.py"))
        self.assertIn("trees.py", [path.name for path in files])
        for path in files:
            with self.subTest(path.name):
                self.assertEqual(faults_of(path.read_text(encoding="utf-8")), [])

    def test_names_are_drawn_from_the_file_that_defines_them(self):
        for path in sorted(FOLDER.glob("*.py")):
            for module, name in drawn_from(path.read_text(encoding="utf-8")):
                with self.subTest(path.name, name=name):
                    source = (FOLDER / (module.split(".")[1] + ".py")).read_text(encoding="utf-8")
                    self.assertIn(name, names_defined(source))

    def test_every_drawn_name_is_used(self):
        for path in sorted(FOLDER.glob("*.py")):
            source = path.read_text(encoding="utf-8")
            for module, name in drawn_from(source):
                with self.subTest(path.name, name=name):
                    self.assertGreater(len(re.findall(r"\b" + name + r"\b", source)), 1)

    def test_no_two_files_draw_from_one_another(self):
        draws = {}
        for path in sorted(FOLDER.glob("*.py")):
            source = path.read_text(encoding="utf-8")
            draws[path.stem] = {module.split(".")[1] for module, name in drawn_from(source)}
        while draws:
            free = [stem for stem in draws if not draws[stem] & set(draws)]
            self.assertTrue(free, draws)
            for stem in free:
                del draws[stem]

    def test_nothing_else_lies_in_the_package(self):
        others = [path.name for path in FOLDER.iterdir() if path.suffix != ".py" and path.name != "__pycache__"]
        self.assertEqual(others, [])
        self.assertTrue((FOLDER / "__init__.py").is_file())

    def test_each_broken_rule_is_seen(self):
        for rule, source in BROKEN:
            with self.subTest(source):
                self.assertIn(rule, [fault[0] for fault in faults_of(source)])


if __name__ == "__main__":
    unittest.main()
