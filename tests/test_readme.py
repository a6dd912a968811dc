"""The examples of README.md run, and give what stands behind them."""

import ast
import pathlib
import re
import unittest

README = pathlib.Path(__file__).resolve().parent.parent / "README.md"


def blocks():
    """The examples, in order."""
    return re.findall(r"```python\n(.*?)```", README.read_text(), re.DOTALL)


def told_behind(line):
    """The value in the comment behind a line, in a tuple; () if it begins with none."""
    comment = line.partition("  #")[2].strip() or line.partition(" # ")[2].strip()
    for text in (comment, comment.split(": ")[0]):
        try:
            return (ast.literal_eval(text),)
        except (SyntaxError, ValueError):
            pass
    return ()


class Examples(unittest.TestCase):

    def test_examples(self):
        names = {}
        compared = 0
        for block in blocks():
            lines = block.split("\n")
            for statement in ast.parse(block).body:
                if not isinstance(statement, ast.Expr):
                    exec(compile(ast.Module([statement], []), "README.md", "exec"), names)
                    continue
                line = lines[statement.end_lineno - 1]
                value = eval(compile(ast.Expression(statement.value), "README.md", "eval"), names)
                for told in told_behind(line):
                    self.assertEqual(value, told, line)
                    compared += 1
        self.assertGreater(compared, 18)

    def test_every_module_is_told(self):
        text = README.read_text()
        for path in (README.parent / "anyvalues").glob("*.py"):
            if path.stem != "__init__":
                self.assertIn(f"`anyvalues.{path.stem}`", text)


if __name__ == "__main__":
    unittest.main()
