"""Point 9: zero, go, call, return, which row is next, and most."""

import unittest

from ringgates.deeds import MOST, done
from ringgates.machines import Machine
from tests.helper import BIG, DONE, fault, num, run_rows, seg, stand_of, with_rows

RETURN = ("return",)


def called(segment, place, *, ring):
    """Call a place of a segment by a pointer of the hand's ring, with 5 as a."""
    machine = Machine([segment])
    return done(machine, stand_of(machine, ring, 5, [(ring, 0, place)]), ("call", 0))


def telling(brackets, gates):
    """A segment whose rows aim a pointer, of the ring that runs, and keep it in segment 1's word 0."""
    rows = (("aim", 1, 1, 0), ("aim", 2, 1, 0), ("keep", 2, 1, 0), RETURN)
    return seg(brackets, "x", gates, (), rows)


class NewRing(unittest.TestCase):
    """Which ring a call leads to, seen by a pointer that the called rows aim and keep in a word."""

    def led_to(self, brackets, *, ring, own=None, gates=1):
        machine = Machine([telling(brackets, gates), seg((7, 7, 7), "rw", 0, [num(0)])])
        own = ring if own is None else own
        stand, told = done(machine, stand_of(machine, ring, 5, [(own, 0, 0)]), ("call", 0))
        if told != DONE:
            self.assertEqual(stand, stand_of(machine, ring))
            return told[1]
        self.assertEqual(stand[0], ring)
        return stand[3][1][0][1]

    def test_every_ring_and_bracket_at_a_gate(self):
        for r1 in range(8):
            for r2 in range(r1, 8):
                for r3 in range(r2, 8):
                    told = [self.led_to((r1, r2, r3), ring=ring) for ring in range(8)]
                    expected = [r1] * r1 + list(range(r1, r2 + 1)) + [r2] * (r3 - r2) + ["call"] * (7 - r3)
                    self.assertEqual(told, expected)

    def test_e_is_the_greater_of_both_rings(self):
        for own in range(8):
            for ring in range(own + 1):
                with self.subTest(own=own, ring=ring):
                    expected = [2, 2, 2, 3, 4, 4, 4, "call"][own]
                    self.assertEqual(self.led_to((2, 4, 6), ring=ring, own=own), expected)

    def test_past_the_gates(self):
        for ring in range(8):
            expected = [2, 2, 2, 3, 4, "gate", "gate", "call"][ring]
            self.assertEqual(self.led_to((2, 4, 6), ring=ring, gates=0), expected)

    def test_the_last_gate_and_the_row_behind(self):
        rows = [RETURN] * 4
        for gates in range(5):
            for place in range(4):
                told = called(seg((2, 2, 6), "x", gates, (), rows), place, ring=5)[1]
                self.assertEqual(told, DONE if place < gates else fault("gate"))
                told = called(seg((2, 2, 6), "x", gates, (), rows), place, ring=2)[1]
                self.assertEqual(told, DONE)


class CallFaults(unittest.TestCase):
    def cause(self, segment, place, *, ring):
        stand, told = called(segment, place, ring=ring)
        self.assertEqual(stand[1:3], (0, (None,) * 4))
        self.assertEqual(told[0], "fault")
        return told[1]

    def test_pointer(self):
        machine = Machine([seg()])
        stand, told = done(machine, stand_of(machine, 4), ("call", 2))
        self.assertEqual(told, fault("pointer"))
        self.assertEqual(run_rows([], [("call", 1)], 4)[1], fault("pointer"))

    def test_run_goes_ahead_of_all_that_follow(self):
        for rights in ("", "r", "w", "rw"):
            for ring in (0, 2, 3, 5, 7):
                for place in (0, 1, 9):
                    self.assertEqual(self.cause(seg((2, 3, 5), rights, 0, (), [RETURN]), place, ring=ring), "run")
        self.assertEqual(self.cause(seg((2, 3, 5), "rw"), 0, ring=2), "run")

    def test_entry_goes_ahead_of_gate_and_call(self):
        for ring in range(8):
            for place in (1, 2, 24, BIG):
                self.assertEqual(self.cause(seg((2, 3, 5), "x", 1, (), [RETURN]), place, ring=ring), "entry")
            self.assertEqual(self.cause(seg((2, 3, 5), "x"), 0, ring=ring), "entry")

    def test_entry_counts_rows_not_words(self):
        self.assertEqual(self.cause(seg((0, 7, 7), "rwx", 0, [num(0)] * 4, [RETURN]), 1, ring=4), "entry")

    def test_farther_out_than_r3_no_gate_is_asked(self):
        self.assertEqual(self.cause(seg((2, 3, 5), "x", 1, (), [RETURN]), 0, ring=6), "call")
        self.assertEqual(self.cause(seg((2, 3, 5), "x", 0, (), [RETURN]), 0, ring=6), "call")
        self.assertEqual(self.cause(seg((2, 3, 3), "x", 0, (), [RETURN]), 0, ring=4), "call")

    def test_in_rows(self):
        cases = [
            ("run", seg((0, 7, 7), "rw", 0, (), [RETURN]), (4, 0, 0)),
            ("entry", seg((0, 7, 7), "x", 0, (), [RETURN]), (4, 0, 1)),
            ("gate", seg((0, 1, 7), "x", 0, (), [RETURN]), (4, 0, 0)),
            ("call", seg((0, 1, 3), "x", 1, (), [RETURN]), (4, 0, 0)),
        ]
        for cause, segment, pointer in cases:
            self.assertEqual(run_rows([segment], [("call", 0)], 4, 0, [pointer])[1], fault(cause))
        good = seg((0, 1, 7), "x", 1, (), [("set", 9), RETURN])
        stand, told = run_rows([good], [("call", 0), ("add", 1)], 4, 0, [(4, 0, 0)])
        self.assertEqual((stand[1], told), (10, DONE))


class Deep(unittest.TestCase):
    def chain(self, many, *, last=RETURN):
        """A row that calls itself down a counter: many calls in all, the hand's too."""
        rows = (("zero", 4), ("add", -1), ("call", 0), RETURN, last, RETURN)
        machine = Machine([seg((0, 7, 7), "x", 0, (), rows)])
        return done(machine, stand_of(machine, 4, many - 1, [(4, 0, 0), (4, 0, 99)]), ("call", 0))

    def test_the_eighth_call_and_the_ninth(self):
        for many in range(1, 9):
            stand, told = self.chain(many)
            self.assertEqual(told, DONE)
        for many in (9, 10):
            self.assertEqual(self.chain(many)[1], fault("deep"))

    def test_each_other_fault_of_a_call_goes_ahead_of_deep(self):
        self.assertEqual(self.chain(8, last=("call", 1))[1], fault("entry"))
        self.assertEqual(self.chain(8, last=("call", 2))[1], fault("pointer"))
        self.assertEqual(self.chain(8, last=("call", 0))[1], fault("deep"))

    def test_run_gate_and_call_go_ahead_of_deep(self):
        rows = (("zero", 4), ("add", -1), ("call", 0), RETURN, ("call", 1))
        cases = [("run", (0, 4, 7), "rw"), ("gate", (0, 1, 7), "x"), ("call", (0, 1, 3), "x"), ("deep", (0, 4, 7), "x")]
        for cause, brackets, rights in cases:
            machine = Machine([seg((0, 7, 7), "x", 0, (), rows), seg(brackets, rights, 0, (), [RETURN])])
            stand = stand_of(machine, 4, 7, [(4, 0, 0), (4, 1, 0)])
            self.assertEqual(done(machine, stand, ("call", 0))[1], fault(cause))

    def test_a_call_that_is_returned_from_counts_no_more(self):
        leaf = seg((0, 7, 7), "x", 0, (), [RETURN])
        self.assertEqual(run_rows([leaf], [("call", 0)] * 20, 4, 0, [(4, 0, 0)])[1], DONE)


class PointersRings(unittest.TestCase):
    def kept(self, brackets, *, ring, own=None, rows=()):
        """The pointers behind a call that returns at once (or behind these rows and a return)."""
        segment = seg(brackets, "x", 1, (), tuple(rows) + (RETURN,))
        machine = Machine([segment, seg((7, 7, 7), "rw", 0, [num(0)])])
        stand = stand_of(machine, ring, 5, ((own or ring, 0, 0), (6, 1, 3), None, (4, 1, 0)))
        return done(machine, stand, ("call", 0))

    def test_outward(self):
        stand, told = self.kept((5, 5, 5), ring=4)
        self.assertEqual(told, DONE)
        self.assertEqual(stand, (4, 5, ((5, 0, 0), (6, 1, 3), None, (5, 1, 0)), ((), (num(0),))))
        stand, told = self.kept((7, 7, 7), ring=4)
        self.assertEqual(stand[2], ((7, 0, 0), (7, 1, 3), None, (7, 1, 0)))

    def test_within_the_bracket_by_the_pointers_ring(self):
        stand, told = self.kept((3, 6, 6), ring=4, own=6)
        self.assertEqual(stand[2], ((6, 0, 0), (6, 1, 3), None, (6, 1, 0)))
        stand, told = self.kept((3, 6, 6), ring=4)
        self.assertEqual(stand[2], ((4, 0, 0), (6, 1, 3), None, (4, 1, 0)))

    def test_inward_leaves_them(self):
        stand, told = self.kept((1, 1, 7), ring=4)
        self.assertEqual(stand[2], ((4, 0, 0), (6, 1, 3), None, (4, 1, 0)))

    def test_a_return_outward_raises_them(self):
        stand, told = self.kept((1, 1, 7), ring=4, rows=[("aim", 2, 1, 8)])
        self.assertEqual(stand[2], ((4, 0, 0), (6, 1, 3), (4, 1, 8), (4, 1, 0)))

    def test_a_return_inward_does_not_lower_them(self):
        stand, told = self.kept((5, 5, 5), ring=4, rows=[("aim", 2, 1, 8)])
        self.assertEqual(stand[2], ((5, 0, 0), (6, 1, 3), (5, 1, 8), (5, 1, 0)))

    def test_raised_within_the_call_already(self):
        inner = seg((4, 4, 4), "rw", 0, [num(7)])
        outer = seg((5, 5, 5), "x", 0, (), [("load", 1, 0), RETURN])
        machine = Machine([inner, outer])
        stand = stand_of(machine, 4, 0, [(4, 1, 0), (4, 0, 0)])
        self.assertEqual(done(machine, stand, ("load", 1, 0))[1], DONE)
        self.assertEqual(done(machine, stand, ("call", 0))[1], fault("read"))

    def test_raised_by_a_return_within_rows(self):
        """Ring 5 calls a gate into ring 1, whose aim is raised to 5 by the return: it reads no more."""
        inner = seg((1, 1, 1), "rw", 0, [num(7)])
        gate = seg((1, 1, 7), "x", 1, (), [("aim", 1, 0, 0), ("load", 1, 0), RETURN])
        outer = seg((5, 5, 5), "x", 0, (), [("call", 2), RETURN, ("call", 2), ("load", 1, 0), RETURN])
        machine = Machine([inner, gate, outer])
        for place, told in ((0, DONE), (2, fault("read"))):
            stand = stand_of(machine, 5, 0, [(5, 2, place), None, (5, 1, 0)])
            self.assertEqual(done(machine, stand, ("call", 0))[1], told)


class GoesBack(unittest.TestCase):
    def test_to_the_row_behind_the_call_in_its_segment_and_ring(self):
        """Ring 4 calls out to 5, which calls in to 2 by a gate; each adds its own figure on the way back."""
        gate = seg((2, 2, 7), "x", 1, (), [("add", 1), RETURN])
        out = seg((5, 5, 5), "x", 0, (), [("call", 1), ("add", 10), ("aim", 3, 0, 5), RETURN])
        here = seg((4, 4, 4), "x", 0, (), [("call", 2), ("add", 100), ("aim", 2, 0, 4), RETURN])
        machine = Machine([gate, out, here], base=1000)
        stand = stand_of(machine, 4, 0, [(4, 2, 0), (4, 0, 0), (4, 1, 0)])
        self.assertEqual(done(machine, stand, ("call", 0)), (
            (4, 111, ((5, 2, 0), (5, 0, 0), (4, 0, 4), (5, 0, 5)), ((), (), ())), DONE,
        ))

    def test_a_call_into_the_same_segment(self):
        rows = [("call", 1), ("add", 1), RETURN, ("add", 4), RETURN]
        stand, told = run_rows([seg((0, 7, 7), "x", 0, (), rows)], [("call", 0), ("add", 8)], 4, 0,
                               [(4, 0, 0), (4, 0, 3)])
        self.assertEqual((stand[1], told), (13, DONE))

    def test_the_hands_ring_is_come_back_to(self):
        for ring in range(8):
            for brackets in [(0, 0, 7), (0, 7, 7), (7, 7, 7), (3, 3, 7), (3, 4, 7)]:
                stand, told = called(seg(brackets, "x", 1, (), [("set", 9), RETURN]), 0, ring=ring)
                self.assertEqual((stand[0], stand[1], told), (ring, 9, DONE))


class NextRow(unittest.TestCase):
    def test_the_hand_has_no_rows(self):
        machine = Machine([seg(rows=[RETURN])])
        for a in (0, 5):
            for deed in [("zero", 0), ("zero", -1), ("go", 0), ("go", 99), RETURN]:
                stand, told = done(machine, stand_of(machine, 4, a, [(4, 0, 0)]), deed)
                self.assertEqual(told, fault("hand"))
                self.assertEqual(stand, stand_of(machine, 4))

    def test_the_row_behind_is_next(self):
        stand, told = run_rows([], [("set", 1), ("add", 2), ("add", 4)], 4)
        self.assertEqual((stand[1], told), (7, DONE))

    def test_a_call_begins_at_its_place(self):
        segment = seg((0, 7, 7), "x", 0, (), [("add", 1), ("add", 2), ("add", 4), RETURN])
        for place, a in ((0, 12), (1, 11), (2, 9), (3, 5)):
            self.assertEqual(called(segment, place, ring=4)[0][1], a)

    def test_go(self):
        stand, told = run_rows([], [("go", 2), ("add", 1), ("add", 2)], 4)
        self.assertEqual((stand[1], told), (2, DONE))
        stand, told = run_rows([], [("go", 3), ("add", 1), ("go", 4), ("go", 1)], 4)
        self.assertEqual((stand[1], told), (1, DONE))

    def test_zero(self):
        for a, expected in ((0, 2), (1, 4), (15, 2)):
            stand, told = run_rows([], [("zero", 2), ("add", 1), ("add", 2)], 4, a)
            self.assertEqual((stand[1], told), (expected, DONE))

    def test_go_is_of_the_segment_that_runs(self):
        segment = seg((0, 7, 7), "x", 0, (), [("go", 2), RETURN, ("set", 9), RETURN])
        stand, told = run_rows([segment], [("call", 0), ("go", 3), ("set", 1)], 4, 0, [(4, 0, 0)])
        self.assertEqual((stand[1], told), (9, DONE))

    def rows_end(self, rows, a=0, most=100):
        machine = with_rows([], rows)
        return done(machine, stand_of(machine, 4, a, [(4, 0, 0)]), ("call", 0), most=most)[1]

    def test_row(self):
        self.assertEqual(self.rows_end([("set", 1)]), fault("row"))
        self.assertEqual(self.rows_end([("zero", 0)], a=1), fault("row"))
        for j in (-1, -2, 2, 3, 24, BIG, -BIG):
            self.assertEqual(self.rows_end([("go", j), RETURN]), fault("row"))
            self.assertEqual(self.rows_end([("zero", j), RETURN]), fault("row"))
            self.assertEqual(self.rows_end([("zero", j), RETURN], a=1), DONE)

    def test_row_behind_a_return(self):
        """A call that is the last row is none until it is returned from."""
        leaf = seg((0, 7, 7), "x", 0, (), [("aim", 2, 0, 0), ("store", 2, 0), RETURN])
        last = seg((0, 7, 7), "x", 0, (), [("call", 1)])
        data = seg((7, 7, 7), "rw", 0, [num(0)])
        machine = Machine([data, leaf, last])
        stand = stand_of(machine, 4, 5, [(4, 2, 0), (4, 1, 0)])
        self.assertEqual(done(machine, stand, ("call", 0)), (
            (4, 0, (None,) * 4, ((num(5),), (), ())), fault("row"),
        ))

    def test_a_rows_own_fault_goes_ahead_of_row(self):
        self.assertEqual(self.rows_end([("load", 1, 0)]), fault("pointer"))
        self.assertEqual(self.rows_end([("call", 1)]), fault("pointer"))


class Most(unittest.TestCase):
    def told(self, rows, most=None, a=0):
        machine = with_rows([], rows)
        stand = stand_of(machine, 4, a, [(4, 0, 0)])
        if most is None:
            return done(machine, stand, ("call", 0))[1]
        return done(machine, stand, ("call", 0), most=most)[1]

    def test_so_many_rows_and_one_more(self):
        for many in range(1, 24):
            rows = [("add", 1)] * (many - 1) + [RETURN]
            self.assertEqual(self.told(rows, most=many), DONE)
            self.assertEqual(self.told(rows, most=many + 1), DONE)
            self.assertEqual(self.told(rows, most=many - 1), fault("long"))

    def rounds(self, ahead):
        """Rows of which so many ahead, and 98 more, run: 32 rounds of three, the last zero, and the return."""
        round_of_three = [("zero", ahead + 3), ("add", -1), ("go", ahead)]
        return with_rows([], [("set", 32)] * ahead + round_of_three + [RETURN], base=1000)

    def test_most_is_100_where_it_is_left_out(self):
        self.assertEqual(MOST, 100)
        for ahead, expected in ((1, DONE), (2, DONE), (3, fault("long"))):
            machine = self.rounds(ahead)
            stand = stand_of(machine, 4, 0, [(4, 0, 0)])
            self.assertEqual(done(machine, stand, ("call", 0))[1], expected)
            self.assertEqual(done(machine, stand, ("call", 0), most=100)[1], expected)
            self.assertEqual(done(machine, stand, ("call", 0), most=97 + ahead)[1], fault("long"))
            self.assertEqual(done(machine, stand, ("call", 0), most=98 + ahead)[1], DONE)

    def test_an_endless_round_is_long(self):
        self.assertEqual(self.told([("go", 0)]), fault("long"))
        self.assertEqual(self.told([("go", 0)], most=300), fault("long"))

    def test_most_0(self):
        machine = Machine([seg((7, 7, 7), "rwx", 0, [num(3)], [RETURN])])
        stand = stand_of(machine, 4, 5, [(4, 0, 0)])
        self.assertEqual(done(machine, stand, ("call", 0), most=0), (stand_of(machine, 4), fault("long")))
        for deed in [("set", 1), ("add", 1), ("load", 0, 0), ("store", 0, 0), ("aim", 1, 0, 0), ("move", 1, 0, 0),
                     ("keep", 0, 0, 0)]:
            self.assertEqual(done(machine, stand, deed, most=0)[1], DONE)
        self.assertEqual(done(machine, stand, RETURN, most=0)[1], fault("hand"))

    def test_the_calls_own_faults_go_ahead_of_long(self):
        machine = Machine([seg((0, 1, 5), "x", 0, (), [RETURN])])
        for ring, own, place, cause in [(4, 4, 0, "gate"), (4, 6, 0, "call"), (1, 1, 1, "entry")]:
            stand = stand_of(machine, ring, 0, [(own, 0, place)])
            self.assertEqual(done(machine, stand, ("call", 0), most=0)[1], fault(cause))
        self.assertEqual(self.told([("load", 2, 0)], most=1), fault("pointer"))

    def test_row_goes_ahead_of_long(self):
        self.assertEqual(self.told([("set", 1)], most=1), fault("row"))
        self.assertEqual(self.told([("set", 1), ("go", 9)], most=2), fault("row"))
        self.assertEqual(self.told([("set", 1), ("go", 9)], most=1), fault("long"))
        self.assertEqual(self.told([("go", -1)], most=1), fault("row"))

    def test_the_rows_of_all_segments_count_together(self):
        leaf = seg((0, 7, 7), "x", 0, (), [("add", 1), RETURN])
        rows = [("call", 0), ("call", 0)]  # with the return: 2 calls, 4 rows of the leaf, 1 return
        for most, told in ((6, fault("long")), (7, DONE)):
            self.assertEqual(run_rows([leaf], rows, 4, 0, [(4, 0, 0)], most=most)[1], told)

    def test_what_was_written_ahead_of_long_stays(self):
        data = seg((7, 7, 7), "rw", 0, [num(0), num(0)])
        stand, told = run_rows([data], [("store", 0, 0), ("store", 0, 1)], 4, 9, [(4, 0, 0)], most=1)
        self.assertEqual((stand[3][0], told), ((num(9), num(0)), fault("long")))


if __name__ == "__main__":
    unittest.main()
