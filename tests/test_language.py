"""The form of the code, as far as tests/language.py can tell it."""

import pathlib
import re
import unittest

import freestrung
from tests.language import faults

FOLDER = pathlib.Path(freestrung.__file__).parent

SPOILT = (
    ("L6", "import sys\n"), ("L2", "from os import path\n"), ("L6", "def f():\n    global x\n"), ("L7", "X = 1.5\n"),
    ("L3", "X = Y\n"), ("L4", "@f\ndef g():\n    pass\n"), ("L8", "def f():\n    return getattr(1, 'a')\n"),
    ("L10", "X = 1  # " + "x" * 120 + "\n"), ("L14", "X = '\u00e4'\n"), ("L15", "def f(list):\n    return list\n"),
    ("L17", "def f(x):\n    return x.type\n"), ("L20", "def f(x, y):\n    return x is y\n"),
    ("L23", "def f(x):\n    y = zip(x, x)\n    return list(y)\n"), ("L24", "def f(x):\n    return set(x)\n"),
    ("L25", "def f(x):\n    return x.sorted()\n"), ("L27", "X = 'a%b'\n"), ("L7", "def f(x):\n    return x / 2\n"),
    ("L7", "def f(x):\n    return any(y for y in x)\n"),
    ("L28", "class A:\n    def __len__(self):\n        return 1 + 1\n"),
    ("L5", "class A:\n    def __hash__(self):\n        return 1\n"),
    ("L23", "def f(x):\n    for y in x:\n        x.append(y)\n"),
    ("L23", "def f(x):\n    for y in x:\n        z = list(x)\n        for w in x:\n            z.append(w)\n        x = z\n"),
    ("L23", "def f(x):\n    for y in x.rows:\n        x.rows[0] = y\n"),
    ("L23", "def f(x, y):\n    z = x or y\n    for w in enumerate(z):\n        y.append(w)\n"),
    ("L19", "def f(x):\n    raise x\n"), ("L12", "def f(x):\n    _ = x\n    return _\n"),
)


FINE = (
    "def f(x):\n    for y in list(x):\n        x.append(y)\n",
    "def f(x):\n    z = []\n    for y in x:\n        z.append(y)\n    return z\n",
    "def f(x):\n    z = list(x)\n    for y in x:\n        z.append(y)\n    return z\n",
    "def f(x):\n    z = []\n    for y in range(len(z)):\n        z.append(y)\n    return z\n",
)


class LanguageTest(unittest.TestCase):
    def test_the_folder_holds_source_files_only(self):
        for file in FOLDER.iterdir():
            if file.name != "__pycache__":
                self.assertRegex(file.name, r"\A[a-z0-9_]+\.py\Z")
        self.assertLessEqual(len(list(FOLDER.glob("*.py"))), 100)

    def test_the_package_keeps_the_rules(self):
        texts = [(file.stem, file.read_text("utf-8")) for file in sorted(FOLDER.glob("*.py"))]
        self.assertGreater(len(texts), 10)
        self.assertEqual(faults(texts), [])

    def test_spoilt_files_are_found(self):
        for rule, text in SPOILT:
            told = " ".join(found for _, found, _ in faults([("spoilt", text)]))
            self.assertTrue(re.search(rf"\b{rule}\b", told), (rule, text, told))

    def test_fine_files_have_no_faults(self):
        for text in FINE:
            self.assertEqual(faults([("fine", text)]), [])


if __name__ == "__main__":
    unittest.main()
