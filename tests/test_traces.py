"""Points 2, 3 and 11: the steps and touches of a deed, and rows of deeds."""

import unittest

from ringgates.deeds import done, first
from ringgates.errors import NoDeed
from ringgates.machines import Machine
from ringgates.traces import done_all, trace
from tests.helper import BIG, DONE, Draw, fault, num, ptr, seg, stand_of, with_rows

RETURN = ("return",)


class EachWord(unittest.TestCase):
    """Each word as the hand's deed, and as a row in the hand's ring: the same touches, and steps for the row alone."""

    DATA = seg((5, 6, 6), "rw", 0, [num(3), ptr(4, 0, 0), num(9)])
    CODE = seg((0, 7, 7), "x", 0, (), [RETURN])

    def touches(self, row, touches, *, pointers=((5, 0, 0), (4, 0, 1)), faulty=False, segments=None):
        segments = [self.DATA, self.CODE] if segments is None else segments
        machine = with_rows(segments, (row, RETURN))
        number = len(segments)
        pointers = tuple(pointers) + (None,) * (3 - len(pointers)) + ((4, number, 0),)
        stand = stand_of(machine, 4, 7, pointers)
        with self.subTest(row=row):
            self.assertEqual(trace(machine, stand, row), ([], touches))
            steps = [(4, number, 0, 1)] if faulty else [(4, number, 0, 1), (4, number, 1, 1)]
            self.assertEqual(trace(machine, stand, ("call", 3)), (steps, touches))
            self.assertEqual(done(machine, stand, ("call", 3))[1] != DONE, faulty)

    def test_rows_that_touch_no_word(self):
        for row in [("set", 3), ("add", -1), ("aim", 2, 0, 0), ("aim", 2, 1, 99), ("move", 1, 0, 2)]:
            self.touches(row, [])

    def test_load(self):
        self.touches(("load", 0, 0), [(5, 0, 0, "r")])
        self.touches(("load", 0, 2), [(5, 0, 2, "r")])
        self.touches(("load", 1, -1), [(4, 0, 0, "r")])

    def test_store(self):
        self.touches(("store", 0, 1), [(5, 0, 1, "w")])
        self.touches(("store", 1, 1), [(4, 0, 2, "w")])

    def test_fetch(self):
        self.touches(("fetch", 2, 0, 1), [(5, 0, 1, "r")])
        self.touches(("fetch", 1, 1, 0), [(4, 0, 1, "r")])

    def test_keep(self):
        self.touches(("keep", 0, 1, 0), [(4, 0, 1, "w")])
        self.touches(("keep", 1, 0, 0), [(5, 0, 0, "w")])

    def test_a_word_of_the_wrong_kind_was_read(self):
        self.touches(("load", 0, 1), [(5, 0, 1, "r")], faulty=True)
        self.touches(("fetch", 2, 0, 0), [(5, 0, 0, "r")], faulty=True)

    def test_no_touch_of_what_was_not_read_or_written(self):
        for row in [("load", 2, 0), ("store", 2, 0), ("fetch", 0, 2, 0), ("keep", 0, 2, 0), ("keep", 2, 0, 0),
                    ("load", 0, 3), ("store", 0, -1), ("fetch", 1, 0, 3), ("keep", 0, 0, BIG), ("move", 1, 2, 0),
                    ("move", 1, 0, -1), ("aim", 2, 0, -1)]:
            self.touches(row, [], faulty=True)

    def test_no_touch_without_the_right(self):
        for row in [("load", 0, 0), ("fetch", 1, 0, 1), ("load", 0, 1)]:
            self.touches(row, [], pointers=[(7, 0, 0)], faulty=True)
        for row in [("store", 0, 0), ("keep", 0, 0, 0)]:
            self.touches(row, [], pointers=[(6, 0, 0)], faulty=True)

    def test_a_ring_for_each_right(self):
        self.touches(("load", 0, 0), [(6, 0, 0, "r")], pointers=[(6, 0, 0)])
        machine = Machine([self.DATA])
        for ring in range(7):
            stand = stand_of(machine, ring, 0, [(ring, 0, 0)])
            self.assertEqual(trace(machine, stand, ("load", 0, 0)), ([], [(ring, 0, 0, "r")]))
        for ring in range(6):
            stand = stand_of(machine, ring, 0, [(ring, 0, 0)])
            self.assertEqual(trace(machine, stand, ("store", 0, 0)), ([], [(ring, 0, 0, "w")]))

    def test_a_call_is_a_step_and_what_it_leads_to(self):
        machine = with_rows([self.DATA, self.CODE], (("call", 0), RETURN))
        stand = stand_of(machine, 4, 0, [(4, 1, 0), None, None, (4, 2, 0)])
        self.assertEqual(trace(machine, stand, ("call", 0)), ([(4, 1, 0, 1)], []))
        self.assertEqual(trace(machine, stand, ("call", 3)), (
            [(4, 2, 0, 1), (4, 1, 0, 2), (4, 2, 1, 1)], [],
        ))

    def test_zero_go_and_return_by_the_hand(self):
        machine = Machine([self.CODE])
        for deed in [("zero", 0), ("go", 0), RETURN]:
            self.assertEqual(trace(machine, stand_of(machine, 4, 0, [(4, 0, 0)]), deed), ([], []))

    def test_zero_and_go_in_rows(self):
        rows = [("zero", 3), ("set", 0), ("go", 0), ("go", 5), ("set", 1), RETURN]
        machine = Machine([seg((0, 7, 7), "x", 0, (), rows)])
        for a, places in [(0, [0, 3, 5]), (1, [0, 1, 2, 0, 3, 5])]:
            stand = stand_of(machine, 4, a, [(4, 0, 0)])
            self.assertEqual(trace(machine, stand, ("call", 0))[0], [(4, 0, place, 1) for place in places])


class CallsThatLeadToNoRow(unittest.TestCase):
    CASES = [
        ("pointer", seg(rows=[RETURN]), None),
        ("run", seg((0, 7, 7), "rw", 0, (), [RETURN]), (4, 0, 0)),
        ("entry", seg((0, 7, 7), "x", 0, (), [RETURN]), (4, 0, 1)),
        ("entry", seg((0, 7, 7), "x"), (4, 0, 0)),
        ("gate", seg((0, 1, 7), "x", 0, (), [RETURN]), (4, 0, 0)),
        ("call", seg((0, 1, 3), "x", 1, (), [RETURN]), (4, 0, 0)),
    ]

    def test_by_the_hand(self):
        for cause, segment, pointer in self.CASES:
            machine = Machine([segment])
            stand = stand_of(machine, 4, 0, [pointer])
            self.assertEqual(done(machine, stand, ("call", 0))[1], fault(cause))
            self.assertEqual(trace(machine, stand, ("call", 0)), ([], []))

    def test_in_rows_the_call_itself_is_a_step(self):
        for cause, segment, pointer in self.CASES:
            machine = with_rows([segment], [("set", 1), ("call", 0), RETURN])
            stand = stand_of(machine, 4, 0, [pointer, (4, 1, 0)])
            self.assertEqual(done(machine, stand, ("call", 1))[1], fault(cause))
            self.assertEqual(trace(machine, stand, ("call", 1)), ([(4, 1, 0, 1), (4, 1, 1, 1)], []))

    def test_the_ninth_call(self):
        machine = Machine([seg((0, 7, 7), "x", 0, (), [("call", 0)])])
        stand = stand_of(machine, 4, 0, [(4, 0, 0)])
        self.assertEqual(done(machine, stand, ("call", 0))[1], fault("deep"))
        self.assertEqual(trace(machine, stand, ("call", 0))[0], [(4, 0, 0, calls) for calls in range(1, 9)])


class Nested(unittest.TestCase):
    def test_rings_segments_places_and_calls(self):
        """Ring 4 calls out to 5, which calls in to 2 by a gate, twice; each touches words of its own right."""
        gate = seg((2, 2, 7), "x", 2, (), [("set", 1), ("load", 3, 0), RETURN])
        out = seg((5, 5, 5), "x", 0, (), [("call", 1), ("store", 3, 1), ("call", 1), RETURN])
        here = seg((4, 4, 4), "x", 0, (), [("load", 3, 0), ("call", 2), ("load", 3, 1), RETURN])
        data = seg((5, 6, 6), "rw", 0, [num(3), num(4)])
        machine = Machine([gate, out, here, data])
        stand = stand_of(machine, 4, 0, [(4, 2, 0), (4, 0, 1), (4, 1, 0), (4, 3, 0)])
        steps, touches = trace(machine, stand, ("call", 0))
        self.assertEqual(steps, [
            (4, 2, 0, 1), (4, 2, 1, 1),
            (5, 1, 0, 2), (2, 0, 1, 3), (2, 0, 2, 3),
            (5, 1, 1, 2), (5, 1, 2, 2), (2, 0, 1, 3), (2, 0, 2, 3), (5, 1, 3, 2),
            (4, 2, 2, 1), (4, 2, 3, 1),
        ])
        # Behind the call outward the pointer bears the ring 5, in the gate and behind the return too.
        self.assertEqual(touches, [
            (4, 3, 0, "r"), (5, 3, 0, "r"), (5, 3, 1, "w"), (5, 3, 0, "r"), (5, 3, 1, "r"),
        ])

    def test_the_ring_is_the_one_that_runs_not_the_pointers(self):
        gate = seg((1, 3, 7), "x", 1, (), [("aim", 1, 0, 0), RETURN])
        machine = Machine([gate])
        for ring, runs in enumerate([1, 1, 2, 3, 3, 3, 3, 3]):
            stand = stand_of(machine, ring, 0, [(ring, 0, 0)])
            self.assertEqual(trace(machine, stand, ("call", 0))[0], [(runs, 0, 0, 1), (runs, 0, 1, 1)])

    def test_an_own_aim_touches_by_the_ring_that_runs(self):
        data = seg((1, 1, 1), "rw", 0, [num(3)])
        gate = seg((1, 1, 7), "x", 1, (), [("aim", 1, 0, 0), ("load", 1, 0), ("store", 1, 0), RETURN])
        machine = Machine([data, gate])
        stand = stand_of(machine, 6, 0, [(6, 1, 0)])
        self.assertEqual(trace(machine, stand, ("call", 0))[1], [(1, 0, 0, "r"), (1, 0, 0, "w")])

    def test_a_word_that_is_written_and_read_again(self):
        data = seg((7, 7, 7), "rw", 0, [num(3)])
        machine = with_rows([data], [("store", 0, 0), ("load", 0, 0), ("store", 0, 0), ("fetch", 0, 0, 0), RETURN])
        stand = stand_of(machine, 4, 0, [(4, 0, 0), (4, 1, 0)])
        self.assertEqual(trace(machine, stand, ("call", 1)), (
            [(4, 1, place, 1) for place in range(4)], [(4, 0, 0, way) for way in "wrwr"],
        ))


class Most(unittest.TestCase):
    def setUp(self):
        data = seg((7, 7, 7), "rw", 0, [num(3)])
        self.machine = with_rows([data], [("load", 0, 0), ("store", 0, 0), ("go", 0)])
        self.stand = stand_of(self.machine, 4, 0, [(4, 0, 0), (4, 1, 0)])

    def test_told(self):
        for most in (0, 1, 2, 3, 4, 10, 99, 100, 101, 250):
            steps, touches = trace(self.machine, self.stand, ("call", 1), most=most)
            self.assertEqual(steps, [(4, 1, place % 3, 1) for place in range(most)])
            self.assertEqual(touches, [(4, 0, 0, "rw"[place % 3]) for place in range(most) if place % 3 < 2])

    def test_left_out(self):
        both = trace(self.machine, self.stand, ("call", 1))
        self.assertEqual(len(both[0]), 100)
        self.assertEqual(both, trace(self.machine, self.stand, ("call", 1), most=100))

    def test_the_hands_deed_does_not_count(self):
        self.assertEqual(trace(self.machine, self.stand, ("load", 0, 0), most=0), ([], [(4, 0, 0, "r")]))
        self.assertEqual(trace(self.machine, self.stand, ("store", 0, 0), most=0), ([], [(4, 0, 0, "w")]))

    def test_a_row_that_is_none_is_no_step(self):
        for rows in ([("set", 1)], [("go", 9), RETURN], [("go", -1)]):
            machine = with_rows([], rows)
            stand = stand_of(machine, 4, 0, [(4, 0, 0)])
            self.assertEqual(trace(machine, stand, ("call", 0)), ([(4, 0, 0, 1)], []))


class Trace(unittest.TestCase):
    def setUp(self):
        data = seg((7, 7, 7), "rw", 0, [num(3)])
        self.machine = with_rows([data], [("load", 0, 0), RETURN])
        self.stand = stand_of(self.machine, 4, 0, [(4, 0, 0), (4, 1, 0)])
        self.told = ([(4, 1, 0, 1), (4, 1, 1, 1)], [(4, 0, 0, "r")])

    def test_arguments_by_place_and_by_name(self):
        by_name = trace(most=100, deed=("call", 1), stand=self.stand, machine=self.machine)
        self.assertEqual(by_name, self.told)
        self.assertEqual(trace(self.machine, self.stand, deed=("call", 1)), self.told)
        with self.assertRaises(TypeError):
            trace(self.machine, self.stand, ("call", 1), 100)

    def test_the_kinds_that_are_told(self):
        both = trace(self.machine, self.stand, ("call", 1))
        self.assertIs(type(both), tuple)
        for part in both:
            self.assertIs(type(part), list)
            for each in part:
                self.assertIs(type(each), tuple)

    def test_lists_that_were_told_may_be_changed(self):
        before = (self.stand, [self.machine.segment(number) for number in range(2)])
        steps, touches = trace(self.machine, self.stand, ("call", 1))
        steps.clear()
        touches.append((0, 0, 0, "w"))
        self.assertEqual(trace(self.machine, self.stand, ("call", 1)), self.told)
        self.assertEqual((steps, len(touches)), ([], 2))
        self.assertEqual((self.stand, [self.machine.segment(number) for number in range(2)]), before)

    def test_nothing_is_done_by_a_trace(self):
        trace(self.machine, self.stand, ("store", 0, 0))
        self.assertEqual(done(self.machine, self.stand, ("load", 0, 0))[0][1], 3)

    def test_refused(self):
        for deed in [("load", 4, 0), ("load", -1, 0), ("keep", 0, 4, 0), ("aim", 0, 2, 0), ("aim", 0, -1, -1),
                     ("call", BIG)]:
            for most in (0, 100):
                with self.assertRaises(NoDeed) as caught:
                    trace(self.machine, self.stand, deed, most=most)
                self.assertEqual(caught.exception.what, deed)

    def test_so_many_steps_as_rows_ran(self):
        """With one row less as most a deed that ran to its end is long, with just so many it is not."""
        many = 0
        for seed in range(150):
            draw = Draw(seed)
            machine = draw.machine(4, True)
            stand = first(machine, 4)
            for deed in draw.deeds(machine):
                steps, touches = trace(machine, stand, deed)
                new, told = done(machine, stand, deed)
                if told == DONE and steps:
                    many += 1
                    self.assertEqual(done(machine, stand, deed, most=len(steps)), (new, told))
                    self.assertEqual(done(machine, stand, deed, most=len(steps) - 1)[1], fault("long"))
                    self.assertEqual(trace(machine, stand, deed, most=len(steps) - 1)[0], steps[:-1])
                self.changed_words_were_touched(stand, new, touches)
                stand = new
        self.assertGreater(many, 50)

    def changed_words_were_touched(self, stand, new, touches):
        written = [touch[1:3] for touch in touches if touch[3] == "w"]
        for number, (before, now) in enumerate(zip(stand[3], new[3])):
            for place, (word, other) in enumerate(zip(before, now)):
                if word != other:
                    self.assertIn((number, place), written)


class DoneAll(unittest.TestCase):
    def setUp(self):
        rows = [("load", 1, 0), ("add", 1), ("store", 1, 0), RETURN]
        self.machine = Machine([seg((2, 2, 7), "rx", 1, [num(1)], rows), seg((5, 5, 5), "rw", 0, [num(3), num(4)])])
        self.stand = first(self.machine, 5)
        self.deeds = [("aim", 0, 0, 0), ("aim", 1, 1, 1), ("call", 0), ("store", 1, -1), ("load", 2, 0), ("set", 3)]

    def test_no_deeds(self):
        self.assertEqual(done_all(self.machine, self.stand, []), (self.stand, []))

    def test_many(self):
        stand, told = done_all(self.machine, self.stand, self.deeds)
        self.assertEqual(stand, (5, 3, (None,) * 4, ((num(1),), (num(5), num(5)))))
        self.assertEqual(told, [DONE] * 4 + [fault("pointer"), DONE])

    def test_the_same_as_one_by_one(self):
        for seed in range(60):
            draw = Draw(seed)
            machine = draw.machine(seed % 8, True)
            deeds = draw.deeds(machine)[:60]
            for most in (0, 2, 100):
                stand, expected = first(machine, seed % 8), []
                for deed in deeds:
                    stand, told = done(machine, stand, deed, most=most)
                    expected.append(told)
                self.assertEqual(done_all(machine, first(machine, seed % 8), deeds, most=most), (stand, expected))

    def test_most(self):
        told = done_all(self.machine, self.stand, self.deeds, most=4)[1]
        self.assertEqual(told[2], DONE)
        told = done_all(self.machine, self.stand, self.deeds, most=3)[1]
        self.assertEqual(told, [DONE, DONE, fault("long"), fault("pointer"), fault("pointer"), DONE])
        told = done_all(self.machine, self.stand, self.deeds, most=0)[1]
        self.assertEqual(told[2], fault("long"))

    def test_most_is_100_where_it_is_left_out(self):
        for ahead, expected in ((2, DONE), (3, fault("long"))):
            # From 32 on down: 32 rounds of three, the last zero and the return.
            rows = [("add", 0)] * ahead + [("zero", ahead + 3), ("add", -1), ("go", ahead), RETURN]
            machine = with_rows([], rows, base=33)
            deeds = [("set", 32), ("aim", 0, 0, 0), ("call", 0)]
            self.assertEqual(done_all(machine, first(machine, 4), deeds)[1], [DONE, DONE, expected])

    def test_the_first_faulty_deed_is_refused_ahead_of_all(self):
        for bad, later in [(("load", 4, 0), ("aim", 0, 2, 0)), (("aim", 0, 2, 0), ("load", 4, 0))]:
            for deeds in ([bad], [bad, later], self.deeds + [bad, later], self.deeds + [bad] + self.deeds + [later]):
                with self.assertRaises(NoDeed) as caught:
                    done_all(self.machine, self.stand, deeds)
                self.assertEqual(caught.exception.what, bad)
        self.assertEqual(self.stand, first(self.machine, 5))

    def test_arguments_by_place_and_by_name(self):
        told = done_all(self.machine, self.stand, self.deeds)
        self.assertEqual(done_all(deeds=self.deeds, most=100, stand=self.stand, machine=self.machine), told)
        with self.assertRaises(TypeError):
            done_all(self.machine, self.stand, self.deeds, 100)

    def test_kinds_and_lists(self):
        deeds = list(self.deeds)
        both = done_all(self.machine, self.stand, deeds)
        self.assertEqual(deeds, self.deeds)
        self.assertEqual([type(both), type(both[0]), type(both[1])], [tuple, tuple, list])
        deeds.clear()
        self.assertEqual(len(both[1]), 6)
        both[1].clear()
        self.assertEqual(len(done_all(self.machine, self.stand, self.deeds)[1]), 6)


if __name__ == "__main__":
    unittest.main()
