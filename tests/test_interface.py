"""The interface: the names, arguments and defaults of all that it lists."""

import importlib
import inspect
import unittest

FUNCTIONS = {
    "machines": {"allowed": "(machine, ring)", "table": "(machine)"},
    "deeds": {"first": "(machine, ring)", "done": "(machine, stand, deed, *, most=100)"},
    "traces": {
        "trace": "(machine, stand, deed, *, most=100)",
        "done_all": "(machine, stand, deeds, *, most=100)",
        "keeps": "(machine, ring, steps, touches)",
    },
    "reaches": {
        "stands": "(machine, stand, menu, *, limit=400)",
        "way": "(machine, stand, menu, wish, *, limit=400)",
        "paper": "(machine, stand, menu, wish, *, limit=400)",
        "paper_holds": "(machine, stand, menu, wish, paper)",
    },
    "learning": {
        "seen": "(machine, stand)",
        "parting": "(one, other, stand, other_stand, menu, *, limit=400)",
        "alike": "(one, other, stand, other_stand, menu, *, limit=400)",
        "alike_holds": "(one, other, stand, other_stand, menu, pairs)",
        "aiming": "(machine, ring)",
    },
    "wishes": {
        "brackets_for": "(reads, writes, runs, calls)",
        "opening": "(reads, writes, runs, calls)",
    },
    "texts": {"show_machine": "(machine)", "show_deeds": "(deeds)"},
    "readings": {"read_machine": "(text)", "read_deeds": "(text)"},
}
# Each class with its arguments, and its methods with theirs.
CLASSES = {
    "machines": ("Machine", "(segments, *, base=16)", {"segment": "(self, number)"}),
    "desk": ("Desk", "()", {"say": "(self, row)"}),
}
NUMBERS = {"machines": {"BASE": 16}, "deeds": {"MOST": 100}, "reaches": {"LIMIT": 400}}


class Interface(unittest.TestCase):
    def test_functions(self):
        for module, functions in FUNCTIONS.items():
            for name, arguments in functions.items():
                with self.subTest(module, name=name):
                    function = getattr(importlib.import_module("ringgates." + module), name)
                    self.assertEqual(str(inspect.signature(function)), arguments)
                    self.assertEqual(function.__module__, "ringgates." + module)

    def test_classes(self):
        for module, (name, arguments, methods) in CLASSES.items():
            with self.subTest(module, name=name):
                made = getattr(importlib.import_module("ringgates." + module), name)
                self.assertEqual(str(inspect.signature(made)), arguments)
                self.assertEqual(made.__module__, "ringgates." + module)
                for method, arguments in methods.items():
                    self.assertEqual(str(inspect.signature(vars(made)[method])), arguments)

    def test_refusals(self):
        errors = importlib.import_module("ringgates.errors")
        for name in "RingError NoMachine NoSegment NoDeed NoWish NoRing TooMany Unlike NoText NoRow".split():
            self.assertEqual(str(inspect.signature(getattr(errors, name))), "(what)")

    def test_numbers(self):
        for module, numbers in NUMBERS.items():
            for name, number in numbers.items():
                self.assertEqual(getattr(importlib.import_module("ringgates." + module), name), number)


if __name__ == "__main__":
    unittest.main()
