"""Point 7: what a ring may do with each segment."""

import unittest

from ringgates.errors import NoRing
from ringgates.machines import Machine, allowed, table
from tests.helper import BIG, seg

RIGHTS = ["", "r", "w", "x", "rw", "rx", "wx", "rwx"]
ALL_BRACKETS = [(r1, r2, r3) for r1 in range(8) for r2 in range(r1, 8) for r3 in range(r2, 8)]


def ways(brackets, rights="rwx"):
    """The four ways as the rings, in a text, in which each is allowed."""
    machine = Machine([seg(brackets, rights)])
    told = [allowed(machine, ring)[0] for ring in range(8)]
    return tuple("".join(str(ring) for ring in range(8) if told[ring][way]) for way in range(4))


class Ways(unittest.TestCase):
    def test_told_examples(self):
        cases = {
            (0, 0, 0): ("0", "0", "0", ""),
            (7, 7, 7): ("01234567", "01234567", "7", ""),
            (0, 7, 7): ("01234567", "0", "01234567", ""),
            (0, 0, 7): ("0", "0", "0", "1234567"),
            (2, 4, 6): ("01234", "012", "234", "56"),
            (2, 2, 6): ("012", "012", "2", "3456"),
            (2, 6, 6): ("0123456", "012", "23456", ""),
            (3, 4, 5): ("01234", "0123", "34", "5"),
            (4, 4, 4): ("01234", "01234", "4", ""),
        }
        for brackets, expected in cases.items():
            with self.subTest(brackets):
                self.assertEqual(ways(brackets), expected)

    def test_every_ring_at_and_beside_each_bracket(self):
        for r1, r2, r3 in ALL_BRACKETS:
            expected = (
                "01234567"[:r2 + 1], "01234567"[:r1 + 1], "01234567"[r1:r2 + 1], "01234567"[r2 + 1:r3 + 1],
            )
            self.assertEqual(ways((r1, r2, r3)), expected)

    def test_each_right(self):
        read, written, run, called = "01234", "012", "234", "56"
        expected = {
            "": ("", "", "", ""),
            "r": (read, "", "", ""),
            "w": ("", written, "", ""),
            "x": ("", "", run, called),
            "rw": (read, written, "", ""),
            "rx": (read, "", run, called),
            "wx": ("", written, run, called),
            "rwx": (read, written, run, called),
        }
        self.assertEqual({rights: ways((2, 4, 6), rights) for rights in RIGHTS}, expected)

    def test_the_kinds_that_are_told(self):
        machine = Machine([seg((2, 4, 6)), seg((0, 0, 0), "")])
        told = allowed(machine, 3)
        self.assertEqual(told, [(True, False, True, False), (False, False, False, False)])
        self.assertIs(type(told), list)
        for ways_told in told:
            self.assertIs(type(ways_told), tuple)
            for way in ways_told:
                self.assertIs(type(way), bool)

    def test_each_segment_is_told_in_order(self):
        machine = Machine([seg((4, 4, 4), "rw"), seg((0, 0, 4), "x"), seg((0, 7, 7), "r")])
        self.assertEqual(allowed(machine, 4), [
            (True, True, False, False), (False, False, False, True), (True, False, False, False),
        ])
        self.assertEqual(allowed(machine=machine, ring=0), [
            (True, True, False, False), (False, False, True, False), (True, False, False, False),
        ])

    def test_no_ring(self):
        machine = Machine([seg()])
        for ring in (-1, -8, 8, 9, BIG, -BIG):
            with self.assertRaises(NoRing) as caught:
                allowed(machine, ring)
            self.assertEqual(caught.exception.what, ring)


class Table(unittest.TestCase):
    def setUp(self):
        self.machine = Machine([seg((2, 4, 6)), seg((1, 1, 7), "x")])

    def test_table(self):
        self.assertEqual(table(self.machine), [
            [(True, True, False, False), (False, False, False, False)],
            [(True, True, False, False), (False, False, True, False)],
            [(True, True, True, False), (False, False, False, True)],
            [(True, False, True, False), (False, False, False, True)],
            [(True, False, True, False), (False, False, False, True)],
            [(False, False, False, True), (False, False, False, True)],
            [(False, False, False, True), (False, False, False, True)],
            [(False, False, False, False), (False, False, False, True)],
        ])
        self.assertEqual(table(machine=self.machine), table(self.machine))

    def test_eight_lists_of_one_for_each_segment(self):
        for many in (1, 8):
            told = table(Machine([seg()] * many))
            self.assertIs(type(told), list)
            self.assertEqual([len(row) for row in told], [many] * 8)
            for row in told:
                self.assertIs(type(row), list)

    def test_told_lists_are_the_askers_own(self):
        before = table(self.machine)
        told = table(self.machine)
        for row in told:
            row.clear()
        told.clear()
        one = allowed(self.machine, 2)
        one.append(None)
        one[0] = None
        self.assertEqual(table(self.machine), before)
        self.assertEqual(allowed(self.machine, 2), before[2])
        rows = table(self.machine)
        rows[2].append(5)
        self.assertEqual(rows[3], before[3])


if __name__ == "__main__":
    unittest.main()
