"""What README.md shows can be done, and each line that is printed with a remark prints what the remark tells."""

import ast
import contextlib
import io
import os
import re
import unittest

README = os.path.join(os.path.dirname(os.path.dirname(os.path.abspath(__file__))), "README.md")


class ReadmeTest(unittest.TestCase):
    def test_examples(self):
        with open(README, encoding="utf-8") as file:
            blocks = re.findall(r"```python\n(.*?)```", file.read(), re.S)
        self.assertGreater(len(blocks), 4)
        known, told = {}, 0
        for block in blocks:
            lines = block.split("\n")
            for row in ast.parse(block).body:
                out = io.StringIO()
                with contextlib.redirect_stdout(out):
                    exec(compile(ast.Module([row], []), "README.md", "exec"), known)
                line = lines[row.end_lineno - 1]
                remark = line[row.end_col_offset:].strip().removeprefix("# ")
                if remark == "" and row.end_lineno < len(lines) and lines[row.end_lineno].startswith("# ["):
                    remark = lines[row.end_lineno].removeprefix("# ")
                printed = out.getvalue().strip().split("\n")
                if len(printed) == 1 and printed[0] != "":
                    self.assertTrue(remark.startswith(printed[0]), (line, printed))
                    told += 1
        self.assertGreater(told, 15)


if __name__ == "__main__":
    unittest.main()
