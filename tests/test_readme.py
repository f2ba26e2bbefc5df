"""Runs the examples of README.md, and holds them to what their remarks tell."""

import ast
import pathlib
import re
import unittest

README = pathlib.Path(__file__).resolve().parent.parent / "README.md"


def value_of(remark):
    """The value with which a remark begins, if it begins with one."""
    for end in range(len(remark), 0, -1):
        if remark[end:end + 1] in ("", ":"):
            try:
                return [ast.literal_eval(remark[:end])]
            except (ValueError, SyntaxError):
                continue
    return []


class TestReadme(unittest.TestCase):
    def test_examples(self):
        held = 0
        for block in re.findall(r"```python\n(.*?)```", README.read_text(), re.S):
            names = {}
            exec(block, names)
            names = {}
            for row in self.rows_of(block):
                code, sign, remark = row.partition("  # ")
                told = value_of(remark.strip())
                if told and not code.startswith(" "):
                    try:
                        self.assertEqual(eval(code.strip(), names), told[0], row)
                        held += 1
                        continue
                    except SyntaxError:
                        pass
                exec(row, names)
        self.assertGreater(held, 50)

    def rows_of(self, block):
        """The statements of a block; one that has inner rows goes with them."""
        rows = []
        for row in block.strip().split("\n"):
            if rows and (row.startswith(" ") or row.startswith("except")):
                rows[-1] += "\n" + row
            else:
                rows.append(row)
        return rows
