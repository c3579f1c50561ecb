"""What README.md shows is what the program tells."""

import pathlib
import unittest

README = pathlib.Path(__file__).resolve().parent.parent / "README.md"


class Readme(unittest.TestCase):
    def test_examples(self):
        lines = README.read_text().partition("```python\n")[2].partition("```")[0].splitlines()
        names = {}
        shown = 0
        for line in lines:
            code, sign, told = line.partition("  # ")
            if sign and " = " not in code:
                self.assertEqual(eval(code.strip(), names), eval(told.strip(), names), line)
                shown += 1
            else:
                exec(code.strip(), names)
        self.assertGreater(shown, 20)


if __name__ == "__main__":
    unittest.main()
