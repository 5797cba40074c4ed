"""Points 2 and 3: the refusals."""

import copy
import pickle
import unittest

from ringgates import errors
from tests.helper import BIG

NAMES = ["NoMachine", "NoSegment", "NoDeed", "NoWish", "NoRing", "TooMany", "Unlike", "NoText", "NoRow"]


class Refusals(unittest.TestCase):
    def test_ring_error_stands_straight_under_value_error(self):
        self.assertEqual(errors.RingError.__bases__, (ValueError,))

    def test_each_stands_straight_under_ring_error(self):
        for name in NAMES:
            with self.subTest(name):
                self.assertEqual(getattr(errors, name).__bases__, (errors.RingError,))

    def test_none_stands_under_another_one(self):
        classes = [getattr(errors, name) for name in NAMES]
        for one in classes:
            for other in classes:
                self.assertEqual(issubclass(one, other), one is other)

    def test_each_keeps_its_value_as_what(self):
        values = [None, 0, -1, BIG, "", "a text", ("load", 4, 0), (0, 1, ("num", 3)), True]
        for name in ["RingError"] + NAMES:
            for value in values:
                with self.subTest(name, value=value):
                    made = getattr(errors, name)(value)
                    self.assertEqual(made.what, value)
                    self.assertIs(type(made.what), type(value))

    def test_the_value_may_be_handed_in_by_name(self):
        for name in ["RingError"] + NAMES:
            self.assertEqual(getattr(errors, name)(what=5).what, 5)

    def test_each_is_made_with_one_value(self):
        for name in ["RingError"] + NAMES:
            with self.assertRaises(TypeError):
                getattr(errors, name)()
            with self.assertRaises(TypeError):
                getattr(errors, name)(1, 2)

    def test_each_is_made_by_its_own_class(self):
        for name in ["RingError"] + NAMES:
            self.assertIn("__init__", vars(getattr(errors, name)))

    def test_each_has_a_message_and_can_be_raised_and_copied(self):
        for name in NAMES:
            kind = getattr(errors, name)
            with self.assertRaises(ValueError) as caught:
                raise kind(("load", 4, 0))
            self.assertTrue(str(caught.exception))
            for again in (copy.copy(caught.exception), pickle.loads(pickle.dumps(caught.exception))):
                self.assertIs(type(again), kind)
                self.assertEqual(again.what, ("load", 4, 0))


if __name__ == "__main__":
    unittest.main()
