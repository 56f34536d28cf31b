"""The examples of README.md do what stands there."""

import contextlib
import io
import pathlib
import re
import unittest

README = pathlib.Path(__file__).resolve().parent.parent / "README.md"


class ReadmeTest(unittest.TestCase):
    def test_examples(self):
        code = "\n".join(re.findall(r"```python\n(.*?)```", README.read_text(encoding="utf-8"), re.DOTALL))
        shown = [row for row in code.split("\n") if row.startswith("#")]
        beside = re.findall(r"\)  # (.*)", code)
        told = io.StringIO()
        with contextlib.redirect_stdout(told):
            exec(compile(code, str(README), "exec"), {})
        expected = [row[2:] for row in shown] + beside
        self.assertEqual(told.getvalue().rstrip("\n").split("\n"), expected)


if __name__ == "__main__":
    unittest.main()
