"""The example in README.md tells the truth."""

import ast
import pathlib
import unittest

README = pathlib.Path(__file__).resolve().parent.parent / "README.md"


class Readme(unittest.TestCase):
    def setUp(self):
        """Do the example; keep what each of its lines that asks something tells."""
        code = README.read_text(encoding="utf-8").split("```python\n")[1].split("```")[0]
        self.names, self.asked = {}, {}
        for part in ast.parse(code).body:
            text = ast.unparse(part)
            if isinstance(part, ast.Expr):
                self.asked[text] = eval(text, self.names)
            else:
                exec(text, self.names)

    def test_deeds(self):
        self.assertEqual(self.asked["allowed(machine, 5)"], [(False, False, False, True), (True, True, False, False)])
        self.assertEqual(self.asked["(stand[1], stand[3][1][0])"], (4, ("num", 4)))
        self.assertEqual(self.names["told"], ("fault", "read"))

    def test_traces(self):
        self.assertEqual(self.names["all_told"], [("done",), ("done",)])
        self.assertEqual(self.asked["steps"], [(0, 0, 0, 1), (0, 0, 1, 1), (0, 0, 2, 1), (0, 0, 3, 1)])
        self.assertEqual(self.asked["touches"], [(5, 1, 0, "r"), (5, 1, 0, "w")])
        self.assertIs(self.asked["keeps(machine, 5, steps, touches)"], True)

    def test_reaches(self):
        self.assertEqual(self.asked["len(stands(machine, start, menu))"], 20)
        self.assertEqual(self.asked["way(machine, start, menu, (1, 0, ('num', 6)))"], [0, 1, 2, 2, 2])
        self.assertEqual(len(self.names["no_way"]), 20)
        self.assertIs(self.asked["paper_holds(machine, start, menu, (0, 0, ('num', 8)), no_way)"], True)

    def test_learning(self):
        self.assertEqual(self.asked["seen(machine, start)"], (0, (None,) * 4, ((), self.names["data"][3])))
        self.assertIsNone(self.asked["parting(machine, other, start, first(other, 5), menu)"])
        self.assertEqual(len(self.names["pairs"]), 20)
        self.assertIs(self.asked["alike_holds(machine, other, start, first(other, 5), menu, pairs)"], True)
        self.assertEqual(self.asked["aiming(machine, 5)"], [])

    def test_wishes(self):
        self.assertEqual(self.asked["brackets_for([0, 1, 2], [0], [], [])"], ((0, 2, 2), "rw"))
        self.assertEqual(self.asked["opening([], [], [], [5])"], ((4, 4, 5), "x"))

    def test_texts(self):
        self.assertEqual(
            self.asked["text"], "16; 0.0.5 rx 1 [7] (load 1 0, add 1, store 1 0, return); 5.5.5 rw 0 [3 5:1:0] ()"
        )
        self.assertIs(self.asked["read_machine(text) == machine"], True)
        self.assertEqual(self.asked["show_deeds(menu)"], "aim 0 0 0, aim 1 1 0, call 0")
        self.assertEqual(self.asked["read_deeds('set -3, return')"], [("set", -3), ("return",)])

    def test_desk(self):
        told = [value for text, value in self.asked.items() if text.startswith("desk.say")]
        self.assertEqual(told, ["ok", "ok", "done done done", "4 5:0:0 5:1:0 - -", "4 5:1:0", "5:1:0r 5:1:0w", "ok"])


if __name__ == "__main__":
    unittest.main()
