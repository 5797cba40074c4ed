"""The example in README.md tells the truth."""

import pathlib
import unittest

README = pathlib.Path(__file__).resolve().parent.parent / "README.md"


class Readme(unittest.TestCase):
    def test_the_example(self):
        code = README.read_text(encoding="utf-8").split("```python\n")[1].split("```")[0]
        names = {}
        exec(code, names)
        self.assertEqual(names["allowed"](names["machine"], 5), [(False, False, False, True), (True, True, False, False)])
        self.assertEqual(names["stand"][3][1][0], ("num", 4))
        self.assertEqual(names["told"], ("fault", "read"))


if __name__ == "__main__":
    unittest.main()
