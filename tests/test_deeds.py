"""Points 2, 8 and 10: stands, how a deed ends, what a fault leaves, and faulty deeds."""

import unittest

from ringgates import deeds
from ringgates.deeds import done, first
from ringgates.errors import NoDeed, NoRing
from ringgates.machines import Machine
from tests.helper import BIG, DONE, fault, num, ptr, seg, stand_of

RETURN = ("return",)


class First(unittest.TestCase):
    def setUp(self):
        self.machine = Machine([seg(words=[num(3), ptr(4, 1, 0)]), seg((0, 0, 0), ""), seg(words=[num(15)])])

    def test_first_stand(self):
        nothing = (None, None, None, None)
        for ring in range(8):
            expected = (ring, 0, nothing, ((num(3), ptr(4, 1, 0)), (), (num(15),)))
            self.assertEqual(first(self.machine, ring), expected)
            self.assertEqual(first(machine=self.machine, ring=ring), expected)

    def test_the_kinds_that_are_told(self):
        stand = first(self.machine, 4)
        for part in (stand, stand[2], stand[3], *stand[3]):
            self.assertIs(type(part), tuple)

    def test_no_ring(self):
        for ring in (-1, -8, 8, 9, BIG, -BIG):
            with self.assertRaises(NoRing) as caught:
                first(self.machine, ring)
            self.assertEqual(caught.exception.what, ring)


class Done(unittest.TestCase):
    def setUp(self):
        rows = [("load", 1, 0), ("add", 1), ("store", 1, 0), RETURN]
        self.machine = Machine([seg((2, 2, 7), "rx", 1, [num(1)], rows), seg((5, 5, 5), "rw", 0, [num(3), num(4)])])

    def test_a_row_of_deeds_one_by_one(self):
        stand = first(self.machine, 5)
        expected = [
            (("aim", 0, 0, 0), 0, ((5, 0, 0), None), (3, 4)),
            (("aim", 1, 1, 1), 0, ((5, 0, 0), (5, 1, 1)), (3, 4)),
            (("call", 0), 5, ((5, 0, 0), (5, 1, 1)), (3, 5)),
            (("call", 0), 6, ((5, 0, 0), (5, 1, 1)), (3, 6)),
            (("add", 12), 2, ((5, 0, 0), (5, 1, 1)), (3, 6)),
            (("store", 1, -1), 2, ((5, 0, 0), (5, 1, 1)), (2, 6)),
        ]
        for deed, a, pointers, words in expected:
            stand, told = done(self.machine, stand, deed)
            self.assertEqual(told, DONE)
            self.assertEqual(stand, (5, a, pointers + (None, None), ((num(1),), tuple(num(n) for n in words))))

    def test_arguments_by_place_and_by_name(self):
        stand = first(self.machine, 5)
        by_place = done(self.machine, stand, ("set", 3))
        self.assertEqual(by_place, done(machine=self.machine, stand=stand, deed=("set", 3), most=100))
        self.assertEqual(by_place, done(deed=("set", 3), stand=stand, machine=self.machine))
        with self.assertRaises(TypeError):
            done(self.machine, stand, ("set", 3), 100)

    def test_the_kinds_that_are_told(self):
        for deed in (("set", 3), ("load", 0, 0)):
            both = done(self.machine, first(self.machine, 5), deed)
            stand, told = both
            for part in (both, told, stand, stand[2], stand[3], *stand[3]):
                self.assertIs(type(part), tuple)

    def test_nothing_is_kept_between_deeds(self):
        stand = stand_of(self.machine, 5, 9, [(5, 1, 0)])
        once = done(self.machine, stand, ("store", 0, 0))
        self.assertEqual(stand, stand_of(self.machine, 5, 9, [(5, 1, 0)]))
        self.assertEqual(self.machine.segment(1)[3], (num(3), num(4)))
        self.assertEqual(done(self.machine, stand, ("store", 0, 0)), once)
        self.assertEqual(first(self.machine, 5)[3], ((num(1),), (num(3), num(4))))

    def test_the_words_are_the_stands_not_the_machines(self):
        stand = (5, 0, ((5, 1, 0), None, None, None), ((num(1),), (num(11), num(4))))
        self.assertEqual(done(self.machine, stand, ("load", 0, 0))[0][1], 11)
        self.assertEqual(done(self.machine, stand, ("set", 2))[0][3], stand[3])

    def test_most_is_told(self):
        self.assertEqual(deeds.MOST, 100)


class BehindAFault(unittest.TestCase):
    """By then the rows have set a, aimed pointers and written two words."""

    def setUp(self):
        rows = [("store", 1, 0), ("set", 7), ("aim", 2, 1, 1), ("keep", 2, 2, 0), ("load", 3, 0), ("store", 1, 0), RETURN]
        self.machine = Machine([seg((6, 6, 6), "x", 0, (), rows), seg((7, 7, 7), "rw", 0, [num(3), num(4)])])

    def test_words_stay_as_they_are_by_then(self):
        stand = stand_of(self.machine, 4, 9, [(4, 0, 0), (4, 1, 0)])
        self.assertEqual(done(self.machine, stand, ("call", 0)), (
            (4, 0, (None, None, None, None), ((), (num(9), ptr(6, 1, 1)))), fault("pointer"),
        ))

    def test_the_hands_own_fault(self):
        stand = stand_of(self.machine, 4, 9, [(4, 0, 0), (4, 1, 0)])
        for deed, cause in [(("load", 2, 0), "pointer"), (("load", 1, 2), "bounds"), (("call", 1), "run"),
                            (("aim", 0, 0, -1), "bounds"), (RETURN, "hand"), (("fetch", 2, 1, 0), "kind")]:
            self.assertEqual(done(self.machine, stand, deed), (
                (4, 0, (None, None, None, None), ((), (num(3), num(4)))), fault(cause),
            ))

    def test_the_hand_goes_on_behind_a_fault(self):
        stand, told = done(self.machine, stand_of(self.machine, 4, 9), RETURN)
        stand, told = done(self.machine, stand, ("aim", 0, 1, 1))
        stand, told = done(self.machine, stand, ("load", 0, 0))
        self.assertEqual((stand[:2], told), ((4, 4), DONE))

    def test_the_hands_ring_stays_wherever_the_fault_was(self):
        for ring in range(8):
            for brackets in [(0, 0, 7), (7, 7, 7), (3, 4, 7)]:
                machine = Machine([seg(brackets, "x", 1, (), [("set", 1), ("load", 1, 0)])])
                stand, told = done(machine, stand_of(machine, ring, 5, [(ring, 0, 0)]), ("call", 0))
                self.assertEqual((stand, told), (stand_of(machine, ring), fault("pointer")))


class FaultyDeeds(unittest.TestCase):
    def setUp(self):
        self.machine = Machine([seg(words=[num(3)], rows=[RETURN]), seg(words=[num(4)])])
        self.stand = stand_of(self.machine, 4, 5, [(4, 0, 0), (4, 1, 0), (5, 0, 0), (7, 1, 3)])

    def refused(self, deed):
        with self.subTest(deed=deed):
            with self.assertRaises(NoDeed) as caught:
                done(self.machine, self.stand, deed)
            self.assertEqual(caught.exception.what, deed)
            with self.assertRaises(NoDeed):
                done(self.machine, self.stand, deed, most=0)

    def test_numbers_of_pointers(self):
        for p in (-1, -4, 4, 5, BIG, -BIG):
            for deed in [("load", p, 0), ("store", p, 0), ("call", p), ("fetch", p, 0, 0), ("fetch", 0, p, 0),
                         ("keep", p, 0, 0), ("keep", 0, p, 0), ("aim", p, 0, 0), ("move", p, 0, 0), ("move", 0, p, 0)]:
                self.refused(deed)

    def test_numbers_of_segments(self):
        for s in (-1, -2, 2, 3, 8, BIG, -BIG):
            self.refused(("aim", 0, s, 0))

    def test_what_is_no_deed_at_all(self):
        for deed in [("jump", 0), ("set",), ("load", 0), ("return", 0), ("call", 0, 0), ("aim", 0, 0), ("load", True, 0)]:
            self.refused(deed)

    def test_a_faulty_deed_is_refused_ahead_of_its_faults(self):
        self.refused(("aim", 0, 2, -1))
        self.refused(("move", 4, 0, -BIG))
        self.refused(("load", 4, 99))

    def test_all_that_there_are_may_be_named(self):
        for p in range(4):
            for deed in [("load", p, 0), ("store", p, 0), ("call", p), ("fetch", p, 0, 0), ("fetch", 0, p, 0),
                         ("keep", p, 0, 0), ("keep", 0, p, 0), ("move", p, 0, 0), ("move", 0, p, 0),
                         ("aim", p, 0, 0), ("aim", p, 1, 0)]:
                self.assertIn(done(self.machine, self.stand, deed)[1][0], ("done", "fault"))

    def test_numbers_of_other_kinds_may_be_any(self):
        for n in (-1, 4, 99, BIG, -BIG):
            for deed in [("set", n), ("add", n), ("load", 0, n), ("store", 0, n), ("fetch", 0, 0, n), ("keep", 0, 0, n),
                         ("aim", 0, 0, n), ("move", 0, 0, n), ("zero", n), ("go", n)]:
                self.assertIn(done(self.machine, self.stand, deed)[1][0], ("done", "fault"))

    def test_nothing_is_changed(self):
        before = (self.stand, self.machine.segment(0), self.machine.segment(1))
        self.refused(("load", 4, 0))
        self.refused(("aim", 0, 2, 0))
        self.assertEqual((self.stand, self.machine.segment(0), self.machine.segment(1)), before)
        self.assertEqual(done(self.machine, self.stand, ("load", 0, 0))[0][1], 3)


if __name__ == "__main__":
    unittest.main()
