"""The examples of README.md print what stands behind them."""

import contextlib
import io
import pathlib
import re
import unittest

README = pathlib.Path(__file__).parent.parent / "README.md"


class ReadmeTest(unittest.TestCase):
    def test_the_examples(self):
        code = "\n".join(re.findall(r"```python\n(.*?)```", README.read_text("utf-8"), re.DOTALL))
        wanted = re.findall(r"print\(.*\) +# (.*)", code)
        printed = io.StringIO()
        with contextlib.redirect_stdout(printed):
            exec(code, {})
        self.assertEqual(printed.getvalue().splitlines(), wanted)
        self.assertGreater(len(wanted), 5)

    def test_each_module_is_told(self):
        text = README.read_text("utf-8")
        for file in (README.parent / "freestrung").glob("[a-z]*.py"):
            self.assertTrue(f"`freestrung.{file.stem}`" in text or f"`{file.stem}`" in text, file.stem)
