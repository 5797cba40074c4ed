"""Points 2, 5 and 6: words, segments, machines."""

import unittest

from ringgates import machines
from ringgates.errors import NoMachine, NoSegment
from ringgates.machines import Machine
from tests.helper import BIG, num, ptr, seg

GOOD = seg()

ALL_ROWS = (
    ("set", -BIG), ("add", BIG), ("load", 0, -1), ("store", 3, BIG), ("fetch", 0, 3, -BIG), ("keep", 3, 0, 5),
    ("aim", 0, 0, -1), ("move", 1, 2, -BIG), ("zero", -3), ("go", BIG), ("call", 3), ("return",),
)


class Refused(unittest.TestCase):
    def refused(self, what, segments, **base):
        with self.assertRaises(NoMachine) as caught:
            Machine(segments, **base)
        self.assertEqual(caught.exception.what, what)
        self.assertIs(type(caught.exception.what), type(what))

    def faulty(self, segment, **base):
        """This segment is refused with its number, wherever it stands."""
        self.refused(0, [segment], **base)
        self.refused(2, [GOOD, GOOD, segment, GOOD], **base)
        self.refused(7, [GOOD] * 7 + [segment], **base)

    def test_number_of_segments(self):
        self.refused(None, [])
        self.refused(None, [GOOD] * 9)
        self.refused(None, [GOOD] * 20)
        for many in range(1, 9):
            self.assertEqual(len(Machine([GOOD] * many)), many)

    def test_base(self):
        for base in (1, 0, -1, -2, -16, -BIG):
            self.refused(None, [GOOD], base=base)
        for base in (2, 3, 16, BIG):
            self.assertEqual(Machine([GOOD], base=base).base, base)

    def test_a_truth_is_no_base(self):
        self.refused(None, [GOOD], base=True)

    def test_none_goes_ahead_of_a_faulty_segment(self):
        bad = seg(rights="q")
        self.refused(None, [bad] * 9)
        self.refused(None, [bad], base=1)
        self.refused(None, [], base=1)

    def test_the_first_of_several_faulty_segments(self):
        by_rights, by_gates, by_row = seg(rights="xr"), seg(gates=1), seg(rows=[("load", 4, 0)])
        by_word, by_brackets = seg(words=[num(16)]), seg((1, 0, 0))
        self.refused(1, [GOOD, by_row, by_brackets])
        self.refused(1, [GOOD, by_word, by_rights])
        self.refused(2, [GOOD, GOOD, by_gates, GOOD, by_brackets])
        self.refused(0, [by_row, by_row])
        self.refused(3, [GOOD, GOOD, GOOD, by_rights, by_brackets])

    def test_brackets(self):
        for brackets in [(1, 0, 0), (0, 1, 0), (7, 6, 7), (5, 5, 4), (2, 1, 3), (0, 7, 6)]:
            self.faulty(seg(brackets))
        for brackets in [(-1, 0, 0), (-1, -1, -1), (0, 0, 8), (0, 8, 8), (8, 8, 8), (0, 0, BIG), (-BIG, 0, 0)]:
            self.faulty(seg(brackets))
        for brackets in [(), (0,), (0, 0), (0, 0, 0, 0)]:
            self.faulty(seg(brackets))
        self.faulty(seg((False, True, True)))

    def test_each_right_bracket_is_taken(self):
        for r1 in range(8):
            for r2 in range(r1, 8):
                for r3 in range(r2, 8):
                    self.assertEqual(Machine([seg((r1, r2, r3))]).segment(0)[0], (r1, r2, r3))

    def test_rights(self):
        for rights in ["a", "R", "rr", "ww", "xx", "wr", "xr", "xw", "xwr", "rxw", "wrx", "rwxr", " ", "-", "r w", "rwxc"]:
            self.faulty(seg(rights=rights))
        for rights in ["", "r", "w", "x", "rw", "rx", "wx", "rwx"]:
            self.assertEqual(Machine([seg(rights=rights)]).segment(0)[1], rights)

    def test_gates(self):
        rows = [("set", 0)] * 3
        for gates in (-1, 4, 5, BIG, -BIG):
            self.faulty(seg(gates=gates, rows=rows))
        self.faulty(seg(gates=1))
        self.faulty(seg(gates=True, rows=rows))
        for gates in range(4):
            self.assertEqual(Machine([seg(gates=gates, rows=rows)]).segment(0)[2], gates)
        self.assertEqual(Machine([seg(gates=24, rows=rows * 8)]).segment(0)[2], 24)

    def test_gates_are_counted_by_rows_not_by_words(self):
        self.faulty(seg(gates=1, words=[num(0)] * 5))

    def test_number_of_words(self):
        self.faulty(seg(words=[num(0)] * 17))
        self.faulty(seg(words=[num(0)] * 40))
        for many in range(17):
            self.assertEqual(len(Machine([seg(words=[num(0)] * many)]).segment(0)[3]), many)

    def test_number_of_rows(self):
        self.faulty(seg(rows=[("return",)] * 25))
        self.faulty(seg(rows=[("return",)] * 60))
        for many in range(25):
            self.assertEqual(len(Machine([seg(rows=[("return",)] * many)]).segment(0)[4]), many)

    def test_numbers_of_words(self):
        for n in (-1, 16, 17, BIG, -BIG):
            self.faulty(seg(words=[num(0), num(n)]))
        self.faulty(seg(words=[num(2)]), base=2)
        self.faulty(seg(words=[num(BIG)]), base=BIG)
        self.faulty(seg(words=[num(True)]))
        for base, n in [(16, 0), (16, 15), (2, 1), (17, 16), (BIG, BIG - 1)]:
            self.assertEqual(Machine([seg(words=[num(n)])], base=base).segment(0)[3], (num(n),))

    def test_pointers_of_words(self):
        for word in [ptr(-1, 0, 0), ptr(8, 0, 0), ptr(BIG, 0, 0), ptr(0, -1, 0), ptr(0, 8, 0), ptr(0, -BIG, 0),
                     ptr(0, BIG, 0), ptr(0, 0, -1), ptr(0, 0, -BIG), ptr(True, 0, 0), ptr(0, False, 0),
                     ptr(0, 0, True)]:
            self.faulty(seg(words=[num(0), word]))
        self.refused(0, [seg(words=[ptr(0, 1, 0)])])
        self.refused(1, [GOOD, seg(words=[ptr(0, 2, 0)])])
        for word in [ptr(0, 0, 0), ptr(7, 1, 0), ptr(3, 0, 99), ptr(3, 1, BIG), ptr(0, 0, 16)]:
            self.assertEqual(Machine([seg(words=[word]), GOOD]).segment(0)[3], (word,))

    def test_faulty_rows(self):
        pointers = [-1, 4, 5, BIG, -BIG, True]
        for p in pointers:
            for row in [("load", p, 0), ("store", p, 0), ("call", p), ("fetch", p, 0, 0), ("fetch", 0, p, 0),
                        ("keep", p, 0, 0), ("keep", 0, p, 0), ("aim", p, 0, 0), ("move", p, 0, 0), ("move", 0, p, 0)]:
                self.faulty(seg(rows=[("return",), row]))
        for s in (-1, 8, BIG, -BIG, True):
            self.faulty(seg(rows=[("return",), ("aim", 0, s, 0)]))
        self.refused(0, [seg(rows=[("aim", 0, 1, 0)])])
        self.refused(1, [GOOD, seg(rows=[("aim", 0, 2, 0)])])

    def test_what_is_no_row_at_all(self):
        for row in [("jump", 0), ("set",), ("load", 0), ("return", 0), ("call", 0, 0), ("aim", 0, 0), ("set", None)]:
            self.faulty(seg(rows=[("return",), row]))

    def test_brackets_and_bases_of_other_kinds(self):
        self.faulty(seg([0, 0, 0]))
        self.faulty(seg((0, 0, "7")))
        self.refused(None, [GOOD], base="16")

    def test_right_rows_with_numbers_of_any_sign(self):
        self.assertEqual(Machine([seg(rows=ALL_ROWS)]).segment(0)[4], ALL_ROWS)
        rows = tuple(("aim", q, s, 0) for q in range(4) for s in range(3))
        self.assertEqual(Machine([seg(rows=rows), GOOD, GOOD]).segment(0)[4], rows)


class Asked(unittest.TestCase):
    def setUp(self):
        self.one = seg((0, 1, 2), "rx", 1, [num(3), ptr(4, 1, 2)], [("load", 0, 0), ("return",)])
        self.other = seg((4, 4, 4), "rw", 0, [num(5)])
        self.machine = Machine([self.one, self.other])

    def test_base_is_16_where_it_is_left_out(self):
        self.assertEqual(machines.BASE, 16)
        self.assertEqual(self.machine.base, 16)
        with self.assertRaises(NoMachine):
            Machine([seg(words=[num(16)])])

    def test_base_goes_by_its_name_alone(self):
        with self.assertRaises(TypeError):
            Machine([GOOD], 16)
        self.assertEqual(Machine(segments=[GOOD], base=5).base, 5)

    def test_segment(self):
        self.assertEqual(self.machine.segment(0), self.one)
        self.assertEqual(self.machine.segment(number=1), self.other)
        self.assertIs(type(self.machine.segment(0)), tuple)

    def test_no_segment(self):
        for number in (-1, -2, -3, 2, 3, 8, BIG, -BIG):
            with self.assertRaises(NoSegment) as caught:
                self.machine.segment(number)
            self.assertEqual(caught.exception.what, number)

    def test_len(self):
        self.assertEqual(len(self.machine), 2)

    def test_equal(self):
        again = Machine([seg((0, 1, 2), "rx", 1, [num(3), ptr(4, 1, 2)], [("load", 0, 0), ("return",)]), self.other])
        self.assertTrue(self.machine == again)
        self.assertFalse(self.machine != again)
        self.assertTrue(self.machine == Machine([self.one, self.other], base=16))

    def test_unlike(self):
        others = [
            Machine([self.one, self.other], base=17),
            Machine([self.other, self.one]),
            Machine([self.one, self.other, self.other]),
            Machine([seg((0, 1, 3), "rx", 1, self.one[3], self.one[4]), self.other]),
            Machine([seg((0, 1, 2), "x", 1, self.one[3], self.one[4]), self.other]),
            Machine([seg((0, 1, 2), "rx", 2, self.one[3], self.one[4]), self.other]),
            Machine([seg((0, 1, 2), "rx", 1, [num(4), ptr(4, 1, 2)], self.one[4]), self.other]),
            Machine([seg((0, 1, 2), "rx", 1, [num(3), ptr(4, 1, 3)], self.one[4]), self.other]),
            Machine([seg((0, 1, 2), "rx", 1, self.one[3], [("load", 0, 1), ("return",)]), self.other]),
        ]
        for other in others:
            self.assertFalse(self.machine == other)
            self.assertTrue(self.machine != other)
            self.assertFalse(other == self.machine)

    def test_unlike_what_is_no_machine(self):
        for other in (None, 2, "", (self.one, self.other), [self.one, self.other]):
            self.assertFalse(self.machine == other)
            self.assertTrue(self.machine != other)

    def test_the_told_methods_stand_in_the_class_itself(self):
        for name in ("__init__", "segment", "__len__", "__eq__", "__ne__"):
            self.assertIn(name, vars(Machine))

    def test_the_list_is_neither_changed_nor_kept(self):
        segments = [self.one, self.other]
        machine = Machine(segments)
        self.assertEqual(segments, [self.one, self.other])
        segments[0] = self.other
        segments.append(GOOD)
        self.assertEqual(len(machine), 2)
        self.assertEqual(machine.segment(0), self.one)
        self.assertEqual(machine, self.machine)
        segments.clear()
        self.assertEqual(machine, self.machine)

    def test_a_refused_list_is_not_changed(self):
        segments = [self.one, seg(rights="q")]
        with self.assertRaises(NoMachine):
            Machine(segments)
        self.assertEqual(segments, [self.one, seg(rights="q")])


if __name__ == "__main__":
    unittest.main()
