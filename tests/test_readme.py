"""The examples of README.md run, and tell what they say."""

import contextlib
import io
import pathlib
import re
import unittest

README = pathlib.Path(__file__).resolve().parent.parent / "README.md"


def told_by(example):
    told = io.StringIO()
    with contextlib.redirect_stdout(told):
        exec(example, {})
    return told.getvalue()


class TestReadme(unittest.TestCase):
    def test_each_example_runs(self):
        examples = re.findall(r"```python\n(.*?)```", README.read_text(encoding="utf-8"), re.DOTALL)
        self.assertGreater(len(examples), 5)
        for example in examples:
            with self.subTest(example.split("\n")[0]):
                self.assertNotEqual(told_by(example), "")

    def test_what_the_first_ones_tell(self):
        examples = re.findall(r"```python\n(.*?)```", README.read_text(encoding="utf-8"), re.DOTALL)
        self.assertEqual(told_by(examples[0]), "1922\n61\nbegin\nsigns 8 good day\nsigns 5 , all\n0 1 2\n13\n")
        lines = told_by(examples[1]).split("\n")
        self.assertEqual(lines[:2] + lines[-3:], ["30 False", "1 7 (0, 7) 1", "1922", "True", ""])
