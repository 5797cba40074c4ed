"""The interface: the names, arguments and defaults of what has been built."""

import importlib
import inspect
import unittest

FUNCTIONS = {
    "machines": {"allowed": "(machine, ring)", "table": "(machine)"},
    "deeds": {"first": "(machine, ring)", "done": "(machine, stand, deed, *, most=100)"},
    "traces": {
        "trace": "(machine, stand, deed, *, most=100)",
        "done_all": "(machine, stand, deeds, *, most=100)",
        "keeps": "(machine, ring, steps, touches)",
    },
    "reaches": {
        "stands": "(machine, stand, menu, *, limit=400)",
        "way": "(machine, stand, menu, wish, *, limit=400)",
        "paper": "(machine, stand, menu, wish, *, limit=400)",
        "paper_holds": "(machine, stand, menu, wish, paper)",
    },
    "learning": {
        "seen": "(machine, stand)",
        "parting": "(one, other, stand, other_stand, menu, *, limit=400)",
        "alike": "(one, other, stand, other_stand, menu, *, limit=400)",
        "alike_holds": "(one, other, stand, other_stand, menu, pairs)",
        "aiming": "(machine, ring)",
    },
}
NUMBERS = {"machines": {"BASE": 16}, "deeds": {"MOST": 100}, "reaches": {"LIMIT": 400}}


class Interface(unittest.TestCase):
    def test_functions(self):
        for module, functions in FUNCTIONS.items():
            for name, arguments in functions.items():
                with self.subTest(module, name=name):
                    function = getattr(importlib.import_module("ringgates." + module), name)
                    self.assertEqual(str(inspect.signature(function)), arguments)
                    self.assertEqual(function.__module__, "ringgates." + module)

    def test_numbers(self):
        for module, numbers in NUMBERS.items():
            for name, number in numbers.items():
                self.assertEqual(getattr(importlib.import_module("ringgates." + module), name), number)


if __name__ == "__main__":
    unittest.main()
