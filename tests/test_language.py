import pathlib
import unittest

from language import package_faults

FOLDER = pathlib.Path(__file__).resolve().parent.parent / "cutyard"

BAD_FILES = (
    "import math\n",
    "from os import path\n",
    "from cutyard.a import *\n",
    "def f(x):\n    return x / 2\n",
    "def f(*x):\n    return x\n",
    "def f(x):\n    a, b = x\n    return a + b\n",
    "def f(x):\n    a = b = x\n    return a + b\n",
    "def f(x):\n    assert x\n",
    "def f(x):\n    del x[0]\n",
    "def f(x):\n    return {y for y in x}\n",
    "def f(x):\n    return sum(y for y in x)\n",
    "def f(x):\n    return [y for z in x for y in z]\n",
    "def f(x):\n    return 1.5\n",
    "def f(x):\n    y = zip(x, x)\n    return y\n",
    "def f(x):\n    return x is x\n",
    "def f(x):\n    return hash(x)\n",
    "def f(sum):\n    return sum\n",
    "def f(x):\n    return f\"{x + 1}\"\n",
    "def f(x):\n    return x.title()\n",
    "def f(x):\n    return 'a % b'\n",
    "def f(x):\n    return 2 ** x\n",
    "def f(x):\n    y = set(x)\n    return y\n",
    "def f(x):\n    return x\n\n\ndef f(y):\n    return y\n",
    "def f(_):\n    return 1\n\n\ndef g():\n    _ = 1\n    return _\n",
    "class A:\n    x = 1\n",
    "# one type of thing\n",
    "# " + "x" * 120 + "\n",
    "def f(x):\n" + "    x = x + 1\n" * 41 + "    return x\n",
    "def f(x):\n\treturn x\n",
)


class LanguageTest(unittest.TestCase):
    def test_nothing_but_python_files_lies_in_the_package(self):
        names = [path.name for path in FOLDER.iterdir() if path.name != "__pycache__"]
        self.assertEqual([name for name in names if not name.endswith(".py")], [])
        self.assertIn("__init__.py", names)

    def test_the_package_keeps_to_the_language(self):
        texts = {path.name: path.read_text(encoding="utf-8") for path in FOLDER.glob("*.py")}
        self.assertEqual(package_faults(texts, "cutyard"), [])

    def test_the_looker_sees_what_is_outside(self):
        for text in BAD_FILES:
            with self.subTest(text):
                self.assertNotEqual(package_faults({"a.py": text}, "cutyard"), [])

    def test_the_looker_sees_rings_of_imports(self):
        texts = {
            "a.py": "from cutyard.b import g\n\n\ndef f(x):\n    return g(x)\n",
            "b.py": "from cutyard.a import f\n\n\ndef g(x):\n    return f(x)\n",
        }
        self.assertNotEqual(package_faults(texts, "cutyard"), [])


if __name__ == "__main__":
    unittest.main()
