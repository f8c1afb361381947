"""The examples of the document for the modules that there are, as they stand there (examples.txt), and of README.md."""

import ast
import os
import re
import unittest

HERE = os.path.dirname(os.path.abspath(__file__))


def examples(text):
    """Yields (line, code, told) for each example; told is the text below it."""
    code, told, begun = None, [], 0
    for number, line in enumerate(text.split("\n"), 1):
        if line.startswith(">>> "):
            if code is not None:
                yield begun, code, "\n".join(told)
            code, told, begun = line[4:], [], number
        elif line:
            told.append(line)
    yield begun, code, "\n".join(told)


def answer(code, names):
    """What an example tells: the repr of its value, the error that it raises, or nothing."""
    tree = ast.parse(code)
    try:
        if isinstance(tree.body[0], ast.Expr):
            value = eval(code, names)
            return "" if value is None else repr(value)
        exec(code, names)
    except Exception as error:
        return f"raises {error!r}"
    return ""


class ExamplesTest(unittest.TestCase):

    def play(self, text):
        names = {}
        rows = list(examples(text))
        for number, code, told in rows:
            with self.subTest(line=number, code=code):
                self.assertEqual(answer(code, names), told)
        self.assertGreaterEqual(len(rows), 5)

    def test_document(self):
        with open(os.path.join(HERE, "examples.txt"), encoding="utf-8") as file:
            self.play(file.read())

    def test_readme(self):
        with open(os.path.join(os.path.dirname(HERE), "README.md"), encoding="utf-8") as file:
            self.play("".join(re.findall(r"```\n(>>> .*?)```", file.read(), re.DOTALL)))


if __name__ == "__main__":
    unittest.main()
