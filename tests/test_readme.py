"""The examples in README.md."""

import ast
import pathlib
import re
import unittest

README = pathlib.Path(__file__).resolve().parent.parent / "README.md"


class ReadmeTests(unittest.TestCase):
    def test_examples(self):
        code = "\n".join(re.findall(r"```python\n(.*?)```", README.read_text(), re.DOTALL))
        names = {}
        shown = 0
        for text, wanted in re.findall(r"((?:(?!# ).*\n)+)(?:# (.*)\n)?", code):
            tree = ast.parse(text)
            if wanted:
                last = ast.Expression(tree.body.pop().value)
                exec(compile(tree, "README", "exec"), names)
                self.assertEqual(eval(compile(last, "README", "eval"), names), ast.literal_eval(wanted))
                shown += 1
            else:
                exec(compile(tree, "README", "exec"), names)
        self.assertEqual(shown, 13)


if __name__ == "__main__":
    unittest.main()
