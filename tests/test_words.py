"""Point 9: the rows that touch words and pointers, by the hand and in a segment's rows."""

import unittest

from ringgates.deeds import done
from tests.helper import BIG, DONE, fault, num, ptr, run_rows, seg, stand_of, with_rows


class BothWays(unittest.TestCase):
    """Each row is done twice in one stand: as the hand's deed, and called as a row in the same ring."""

    def outcomes(self, segments, row, ring, a, pointers, base):
        machine = with_rows(segments, (row, ("return",)), base=base)
        pointers = tuple(pointers) + (None,) * (3 - len(pointers)) + ((ring, len(segments), 0),)
        stand = stand_of(machine, ring, a, pointers)
        for deed in (row, ("call", 3)):
            with self.subTest(row=row, deed=deed):
                yield machine, done(machine, stand, deed)

    def becomes(self, segments, row, *, ring=4, a=0, pointers=(), base=16, new_a=None, new=None, words=None):
        """new: the pointers that change, by number; words: the words that change, by (segment, place)."""
        old = tuple(pointers) + (None,) * (3 - len(pointers))
        expected = tuple((new or {}).get(p, old[p]) for p in range(3))
        for machine, (stand, told) in self.outcomes(segments, row, ring, a, pointers, base):
            self.assertEqual(told, DONE)
            self.assertEqual(stand[0], ring)
            self.assertEqual(stand[1], a if new_a is None else new_a)
            self.assertEqual(stand[2][:3], expected)
            memory = [list(machine.segment(number)[3]) for number in range(len(machine))]
            for (segment, place), word in (words or {}).items():
                memory[segment][place] = word
            self.assertEqual(stand[3], tuple(tuple(part) for part in memory))

    def faults(self, cause, segments, row, *, ring=4, a=5, pointers=(), base=16):
        for machine, (stand, told) in self.outcomes(segments, row, ring, a, pointers, base):
            self.assertEqual(told, fault(cause))
            self.assertEqual(stand, stand_of(machine, ring))


class SetAndAdd(BothWays):
    def test_set(self):
        for n, new_a in [(0, 0), (7, 7), (15, 15), (16, 0), (17, 1), (160, 0), (-1, 15), (-16, 0), (-17, 15)]:
            self.becomes([], ("set", n), a=9, new_a=new_a)

    def test_add(self):
        for a, n, new_a in [(3, 4, 7), (3, 0, 3), (15, 1, 0), (15, 2, 1), (0, -1, 15), (5, -5, 0), (5, -6, 15),
                            (9, 32, 9), (9, -32, 9), (15, 15, 14)]:
            self.becomes([], ("add", n), a=a, new_a=new_a)

    def test_by_another_base(self):
        self.becomes([], ("set", 3), base=2, new_a=1)
        self.becomes([], ("set", -1), base=10, new_a=9)
        self.becomes([], ("add", 8), a=5, base=10, new_a=3)

    def test_numbers_of_sixty_figures(self):
        self.becomes([], ("set", BIG), base=BIG, new_a=0)
        self.becomes([], ("set", BIG - 1), base=BIG, new_a=BIG - 1)
        self.becomes([], ("set", -1), base=BIG, new_a=BIG - 1)
        self.becomes([], ("add", BIG - 1), a=BIG - 1, base=BIG, new_a=BIG - 2)
        self.becomes([], ("set", BIG), new_a=BIG % 16)
        self.becomes([], ("add", -BIG), a=3, new_a=(3 - BIG) % 16)


class Load(BothWays):
    DATA = seg((2, 5, 6), "r", 0, [num(3), num(9), ptr(4, 0, 0)])

    def test_loads(self):
        for place, w, n in [(0, 0, 3), (0, 1, 9), (1, 0, 9), (1, -1, 3), (9, -8, 9), (BIG, -BIG, 3), (2, -2, 3)]:
            self.becomes([self.DATA], ("load", 0, w), a=7, pointers=[(4, 0, place)], new_a=n)

    def test_by_each_pointer_of_its_own(self):
        pointers = [(4, 0, 0), (4, 0, 1), None]
        self.becomes([self.DATA], ("load", 1, 0), pointers=pointers, new_a=9)
        self.faults("pointer", [self.DATA], ("load", 2, 0), pointers=pointers)

    def test_pointer(self):
        self.faults("pointer", [self.DATA], ("load", 0, 0))
        self.faults("pointer", [self.DATA], ("load", 0, 99))

    def test_bounds(self):
        for place, w in [(0, 3), (0, -1), (3, 0), (2, 1), (2, -3), (BIG, 0), (0, BIG), (0, -BIG), (16, 0)]:
            self.faults("bounds", [self.DATA], ("load", 0, w), pointers=[(4, 0, place)])

    def test_bounds_are_those_of_the_pointers_own_segment(self):
        short = seg((2, 5, 6), "r", 0, [num(1)])
        self.faults("bounds", [self.DATA, short], ("load", 0, 1), pointers=[(4, 1, 0)])
        self.faults("bounds", [self.DATA, seg((0, 7, 7), "rwx", 0, (), [("return",)])], ("load", 0, 0),
                    pointers=[(4, 1, 0)])

    def test_bounds_go_ahead_of_read(self):
        self.faults("bounds", [seg((2, 5, 6), "w", 0, [num(0)])], ("load", 0, 1), pointers=[(4, 0, 0)])
        self.faults("bounds", [self.DATA], ("load", 0, 3), ring=6, pointers=[(6, 0, 0)])

    def test_read_by_the_ring_that_runs(self):
        for ring in range(8):
            case = ("load", 0, 0)
            if ring <= 5:
                self.becomes([self.DATA], case, ring=ring, pointers=[(ring, 0, 0)], new_a=3)
            else:
                self.faults("read", [self.DATA], case, ring=ring, pointers=[(ring, 0, 0)])

    def test_read_by_the_pointers_ring(self):
        for ring in range(8):
            case = ("load", 0, 0)
            if ring <= 5:
                self.becomes([self.DATA], case, ring=0, pointers=[(ring, 0, 0)], new_a=3)
            else:
                self.faults("read", [self.DATA], case, ring=0, pointers=[(ring, 0, 0)])

    def test_read_without_the_right(self):
        for rights in ("", "w", "x", "wx"):
            data = seg((2, 5, 6), rights, 0, [num(3)])
            self.faults("read", [data], ("load", 0, 0), ring=0, pointers=[(0, 0, 0)])

    def test_read_goes_ahead_of_kind(self):
        self.faults("read", [self.DATA], ("load", 0, 2), ring=6, pointers=[(6, 0, 0)])

    def test_kind(self):
        self.faults("kind", [self.DATA], ("load", 0, 2), pointers=[(4, 0, 0)])


class Store(BothWays):
    DATA = seg((4, 5, 6), "w", 0, [num(3), ptr(7, 0, 0)])

    def test_stores(self):
        for place, w, at in [(0, 0, 0), (0, 1, 1), (1, -1, 0), (BIG, 1 - BIG, 1)]:
            self.becomes([self.DATA], ("store", 0, w), a=8, pointers=[(4, 0, place)], words={(0, at): num(8)})

    def test_stores_in_the_pointers_own_segment(self):
        self.becomes([self.DATA, self.DATA], ("store", 1, 0), a=8, pointers=[(4, 0, 0), (4, 1, 1)],
                     words={(1, 1): num(8)})

    def test_pointer(self):
        self.faults("pointer", [self.DATA], ("store", 0, 0))
        self.faults("pointer", [self.DATA], ("store", 1, 9), pointers=[(4, 0, 0)])

    def test_bounds(self):
        for place, w in [(0, 2), (0, -1), (2, 0), (1, -2), (BIG, 0), (0, -BIG)]:
            self.faults("bounds", [self.DATA], ("store", 0, w), pointers=[(4, 0, place)])

    def test_bounds_go_ahead_of_write(self):
        self.faults("bounds", [self.DATA], ("store", 0, 2), ring=5, pointers=[(5, 0, 0)])

    def test_write_by_both_rings(self):
        for ring in range(8):
            for own, running in ((ring, ring), (ring, 0)):
                pointers = [(own, 0, 0)]
                if ring <= 4:
                    self.becomes([self.DATA], ("store", 0, 0), ring=running, a=8, pointers=pointers,
                                 words={(0, 0): num(8)})
                else:
                    self.faults("write", [self.DATA], ("store", 0, 0), ring=running, pointers=pointers)

    def test_write_without_the_right(self):
        for rights in ("", "r", "x", "rx"):
            self.faults("write", [seg((4, 5, 6), rights, 0, [num(3)])], ("store", 0, 0), ring=0,
                        pointers=[(0, 0, 0)])


class Fetch(BothWays):
    DATA = seg((2, 5, 6), "r", 0, [num(3), ptr(0, 1, 7), ptr(6, 0, BIG)])
    OTHER = seg()

    def test_fetches(self):
        self.becomes([self.DATA, self.OTHER], ("fetch", 1, 0, 1), pointers=[(4, 0, 0)], new={1: (4, 1, 7)})
        self.becomes([self.DATA, self.OTHER], ("fetch", 1, 0, 0), pointers=[(4, 0, 2)], new={1: (6, 0, BIG)})
        self.becomes([self.DATA, self.OTHER], ("fetch", 0, 0, 1), pointers=[(4, 0, 0)], new={0: (4, 1, 7)})
        self.becomes([self.DATA, self.OTHER], ("fetch", 2, 1, -1), pointers=[None, (5, 0, 2), (7, 0, 0)],
                     new={2: (5, 1, 7)})

    def test_the_ring_is_the_greatest_of_three(self):
        for r1 in range(8):
            for own in range(8):
                for e in range(8):
                    data = seg((r1, 7, 7), "r", 0, [ptr(own, 0, 0)])
                    expected = {1: (max(r1, own, e), 0, 0)}
                    for ring in (0, e):
                        self.becomes([data], ("fetch", 1, 0, 0), ring=ring, pointers=[(e, 0, 0)], new=expected)

    def test_r1_is_that_of_the_segment_in_which_it_was_read(self):
        low = seg((1, 7, 7), "r", 0, [ptr(0, 1, 0)])
        high = seg((6, 7, 7), "r", 0, [ptr(0, 0, 0)])
        self.becomes([low, high], ("fetch", 1, 0, 0), ring=0, pointers=[(0, 0, 0)], new={1: (1, 1, 0)})
        self.becomes([low, high], ("fetch", 1, 0, 0), ring=0, pointers=[(0, 1, 0)], new={1: (6, 0, 0)})

    def test_pointer(self):
        self.faults("pointer", [self.DATA, self.OTHER], ("fetch", 0, 1, 9), pointers=[(4, 0, 0)])

    def test_bounds(self):
        for place, w in [(0, 3), (0, -1), (3, 0), (BIG, 0)]:
            self.faults("bounds", [self.DATA, self.OTHER], ("fetch", 1, 0, w), pointers=[(4, 0, place)])

    def test_bounds_go_ahead_of_read(self):
        self.faults("bounds", [self.DATA, self.OTHER], ("fetch", 1, 0, 3), ring=6, pointers=[(6, 0, 0)])

    def test_read(self):
        self.faults("read", [self.DATA, self.OTHER], ("fetch", 1, 0, 1), ring=6, pointers=[(6, 0, 0)])
        self.faults("read", [self.DATA, self.OTHER], ("fetch", 1, 0, 1), ring=0, pointers=[(6, 0, 0)])
        self.faults("read", [seg((2, 5, 6), "wx", 0, [ptr(0, 0, 0)])], ("fetch", 1, 0, 0), pointers=[(4, 0, 0)])

    def test_read_goes_ahead_of_kind(self):
        self.faults("read", [self.DATA, self.OTHER], ("fetch", 1, 0, 0), ring=6, pointers=[(6, 0, 0)])

    def test_kind(self):
        self.faults("kind", [self.DATA, self.OTHER], ("fetch", 1, 0, 0), pointers=[(4, 0, 0)])


class Keep(BothWays):
    DATA = seg((4, 5, 6), "w", 0, [num(3), ptr(7, 0, 0)])

    def test_keeps(self):
        self.becomes([self.DATA], ("keep", 1, 0, 0), pointers=[(4, 0, 0), (6, 0, BIG)], words={(0, 0): ptr(6, 0, BIG)})
        self.becomes([self.DATA], ("keep", 1, 0, 1), pointers=[(4, 0, 0), (5, 0, 2)], words={(0, 1): ptr(5, 0, 2)})
        self.becomes([self.DATA], ("keep", 0, 0, -1), pointers=[(4, 0, 1)], words={(0, 0): ptr(4, 0, 1)})

    def test_pointer_of_either(self):
        self.faults("pointer", [self.DATA], ("keep", 1, 0, 0), pointers=[(4, 0, 0)])
        self.faults("pointer", [self.DATA], ("keep", 0, 1, 0), pointers=[(4, 0, 0)])
        self.faults("pointer", [self.DATA], ("keep", 0, 1, 0))

    def test_pointer_goes_ahead_of_bounds_and_write(self):
        self.faults("pointer", [self.DATA], ("keep", 1, 0, 9), pointers=[(4, 0, 0)])
        self.faults("pointer", [self.DATA], ("keep", 1, 0, 0), ring=5, pointers=[(5, 0, 0)])
        self.faults("pointer", [self.DATA], ("keep", 0, 1, 9), pointers=[(4, 0, 0)])

    def test_bounds_go_ahead_of_write(self):
        for place, w in [(0, 2), (0, -1), (2, 0), (BIG, 0)]:
            pointers = [(4, 0, place), (4, 0, 0)]
            self.faults("bounds", [self.DATA], ("keep", 1, 0, w), pointers=pointers)
        self.faults("bounds", [self.DATA], ("keep", 1, 0, 2), ring=5, pointers=[(5, 0, 0), (5, 0, 0)])

    def test_write_is_by_the_ring_of_p(self):
        self.becomes([self.DATA], ("keep", 1, 0, 0), pointers=[(4, 0, 0), (7, 0, 0)], words={(0, 0): ptr(7, 0, 0)})
        self.faults("write", [self.DATA], ("keep", 1, 0, 0), pointers=[(5, 0, 0), (4, 0, 0)])
        self.faults("write", [self.DATA], ("keep", 1, 0, 0), ring=5, pointers=[(5, 0, 0), (5, 0, 0)])
        self.faults("write", [seg((4, 5, 6), "rx", 0, [num(3)])], ("keep", 0, 0, 0), pointers=[(4, 0, 0)])


class AimAndMove(BothWays):
    def test_aim(self):
        for ring in range(8):
            self.becomes([seg(), seg()], ("aim", 1, 0, 5), ring=ring, new={1: (ring, 0, 5)})
        self.becomes([seg(), seg()], ("aim", 0, 1, 0), pointers=[(7, 0, 3)], new={0: (4, 1, 0)})
        self.becomes([seg(), seg()], ("aim", 2, 1, BIG), new={2: (4, 1, BIG)})

    def test_aim_needs_no_right(self):
        self.becomes([seg((0, 0, 0), "")], ("aim", 0, 0, 9), ring=7, new={0: (7, 0, 9)})

    def test_aim_below_0(self):
        for w in (-1, -2, -BIG):
            self.faults("bounds", [seg()], ("aim", 0, 0, w))

    def test_move(self):
        for place, n in [(3, 0), (3, 5), (3, -3), (0, 0), (BIG, BIG), (BIG, -BIG), (0, BIG)]:
            self.becomes([seg()], ("move", 1, 0, n), pointers=[(6, 0, place)], new={1: (6, 0, place + n)})
        self.becomes([seg()], ("move", 0, 0, 1), pointers=[(4, 0, 2)], new={0: (4, 0, 3)})
        self.becomes([seg()], ("move", 2, 0, 1), pointers=[(4, 0, 2), None, (7, 0, 9)], new={2: (4, 0, 3)})

    def test_move_keeps_the_pointers_own_ring(self):
        for ring in range(4, 8):
            self.becomes([seg()], ("move", 1, 0, 1), pointers=[(ring, 0, 0)], new={1: (ring, 0, 1)})

    def test_move_pointer(self):
        self.faults("pointer", [seg()], ("move", 0, 1, 0), pointers=[(4, 0, 0)])
        self.faults("pointer", [seg()], ("move", 0, 1, -BIG), pointers=[(4, 0, 0)])

    def test_move_below_0(self):
        for place, n in [(0, -1), (3, -4), (3, -BIG), (BIG, -BIG - 1)]:
            self.faults("bounds", [seg()], ("move", 1, 0, n), pointers=[(4, 0, place)])

    def test_places_grow_beyond_sixty_figures(self):
        rows = [("aim", 0, 0, 10 ** 60 - 1)] + [("move", 0, 0, 10 ** 60 - 1)] * 20
        stand, told = run_rows([seg()], rows, 4)
        self.assertEqual(told, DONE)
        self.assertEqual(stand[2][0], (4, 0, 21 * (10 ** 60 - 1)))


class InAnInnerRing(unittest.TestCase):
    """Rows behind a gate run in ring 1; the hand, in ring 5, hands them its pointer 0."""

    INNER = seg((1, 1, 1), "rw", 0, [num(3), ptr(0, 0, 1)])
    OUTER = seg((5, 5, 5), "rw", 0, [num(9), ptr(0, 0, 0)])

    def by_gate(self, rows, pointers):
        gate = seg((1, 1, 7), "x", 1, (), tuple(rows) + (("return",),))
        machine = with_rows([self.INNER, self.OUTER, gate], ())
        pointers = tuple(pointers) + (None,) * (3 - len(pointers)) + ((5, 2, 0),)
        return done(machine, stand_of(machine, 5, 6, pointers), ("call", 3))

    def test_the_hands_pointers_reach_by_their_own_ring(self):
        self.assertEqual(self.by_gate([("load", 0, 0)], [(5, 0, 0)])[1], fault("read"))
        self.assertEqual(self.by_gate([("store", 0, 0)], [(5, 0, 0)])[1], fault("write"))
        self.assertEqual(self.by_gate([("fetch", 1, 0, 1)], [(5, 0, 0)])[1], fault("read"))
        self.assertEqual(self.by_gate([("keep", 0, 0, 0)], [(5, 0, 0)])[1], fault("write"))
        stand, told = self.by_gate([("load", 0, 0)], [(5, 1, 0)])
        self.assertEqual((stand[1], told), (9, DONE))

    def test_what_the_rows_aim_reaches_by_the_ring_that_runs(self):
        stand, told = self.by_gate([("aim", 1, 0, 0), ("load", 1, 0), ("store", 0, 0)], [(5, 1, 0)])
        self.assertEqual((stand[1], told), (3, DONE))
        self.assertEqual(stand[3][1], (num(3), ptr(0, 0, 0)))
        stand, told = self.by_gate([("aim", 1, 0, 0), ("store", 1, 0)], [])
        self.assertEqual(stand[3][0], (num(6), ptr(0, 0, 1)))

    def test_fetched_in_the_inner_ring(self):
        rows = [("aim", 1, 0, 1), ("fetch", 1, 1, 0), ("load", 1, -1), ("store", 0, 0)]
        stand, told = self.by_gate(rows, [(5, 1, 0)])
        self.assertEqual((stand[1], told), (3, DONE))

    def test_fetched_from_words_that_an_outer_ring_may_write(self):
        rows = [("aim", 1, 1, 1), ("fetch", 1, 1, 0), ("load", 1, 0)]
        self.assertEqual(self.by_gate(rows, [])[1], fault("read"))

    def test_moved_in_the_inner_ring(self):
        rows = [("move", 1, 0, -1), ("load", 1, 0)]
        self.assertEqual(self.by_gate(rows, [(5, 0, 1)])[1], fault("read"))


if __name__ == "__main__":
    unittest.main()
