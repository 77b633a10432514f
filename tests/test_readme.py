"""Runs the examples of README.md: each row whose remark begins with a value must tell that value."""

import ast
import pathlib
import re
import unittest

README = pathlib.Path(__file__).resolve().parent.parent / "README.md"


def told_value(remark):
    """The value that a remark begins with, in a tuple of one; None where it begins with none."""
    for text in (remark, re.split(r"[:,] ", remark)[0]):
        try:
            return (ast.literal_eval(text),)
        except (SyntaxError, ValueError):
            pass
    return None


class ReadmeTest(unittest.TestCase):
    def test_the_examples(self):
        names, checked = {}, 0
        for block in re.findall(r"```python\n(.*?)```", README.read_text("utf-8"), re.S):
            for row in block.splitlines():
                code, mark, remark = row.partition("  #")
                told = told_value(remark.strip()) if mark else None
                if told is None:
                    exec(row, names)
                else:
                    self.assertEqual(eval(code, names), told[0], row)
                    checked += 1
        self.assertGreater(checked, 10)


if __name__ == "__main__":
    unittest.main()
