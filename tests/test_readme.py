import ast
import pathlib
import unittest

README = pathlib.Path(__file__).resolve().parent.parent / "README.md"


def lines():
    """The lines of Python code in README.md: the code, and what the comment behind it tells."""
    for block in README.read_text().split("```python\n")[1:]:
        for line in block.split("```")[0].splitlines():
            code, _, told = line.partition("#")
            yield code.strip(), told.strip()


def answer_of(told):
    """The value that a comment begins with, up to a colon, in a tuple; an empty tuple if it begins with none."""
    try:
        return (ast.literal_eval(told.split(": ")[0]),)
    except (SyntaxError, ValueError):
        return ()


class ReadmeTest(unittest.TestCase):
    def test_all_examples_run_and_have_the_answers_that_are_told(self):
        names, many = {}, 0
        for code, told in lines():
            try:
                expression = compile(code, "README.md", "eval")
            except SyntaxError:
                exec(code, names)
                continue
            value = eval(expression, names)
            for answer in answer_of(told):
                self.assertEqual(value, answer, code)
                many += 1
        self.assertGreater(many, 20)
