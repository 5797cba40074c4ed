"""Points 4 and 12: what a trace must be to keep the brackets."""

import unittest

from ringgates.deeds import first
from ringgates.machines import Machine, allowed
from ringgates.traces import done_all, keeps, trace
from tests.helper import BIG, Draw, num, ptr, seg, stand_of

RETURN = ("return",)


class Base(unittest.TestCase):
    """A trace that is kept, and ways to change it at one place."""

    def setUp(self):
        gate = seg((2, 3, 6), "x", 1, [num(1)], [("load", 2, 0), RETURN, ("set", 0), RETURN])
        here = seg((4, 5, 5), "rwx", 0, [num(3), num(4)], [
            ("call", 1), ("add", 1), ("go", 3), RETURN, ("call", 2), ("call", 1), RETURN,
        ])
        plain = seg((1, 6, 6), "rw", 0, [num(5), ptr(4, 0, 0), num(6)], [RETURN])
        out = seg((6, 7, 7), "rx", 0, [num(7)], [("call", 1), RETURN, RETURN])
        self.machine = Machine([gate, here, plain, out])
        self.steps = [
            (4, 1, 0, 1), (3, 0, 0, 2), (3, 0, 1, 2), (4, 1, 1, 1), (4, 1, 2, 1), (4, 1, 3, 1),
        ]
        self.touches = [(4, 1, 0, "r"), (4, 1, 1, "w"), (6, 2, 1, "r"), (1, 2, 2, "w"), (7, 3, 0, "r")]

    def kept(self, steps=(), touches=(), *, ring=4):
        told = keeps(self.machine, ring, list(steps), list(touches))
        self.assertIs(type(told), bool)
        return told

    def changed(self, at, **parts):
        """The steps with parts of the one at this place changed."""
        names = ["ring", "segment", "place", "calls"]
        step = tuple(parts.get(name, part) for name, part in zip(names, self.steps[at]))
        self.assertNotEqual(step, self.steps[at])
        return self.steps[:at] + [step] + self.steps[at + 1:]


class Whole(Base):
    def test_the_trace_that_is_changed_below(self):
        self.assertTrue(self.kept(self.steps, self.touches))

    def test_empty_lists(self):
        for ring in range(8):
            self.assertTrue(self.kept([], [], ring=ring))

    def test_any_number_of_the_first_steps(self):
        for many in range(len(self.steps) + 1):
            self.assertTrue(self.kept(self.steps[:many], self.touches))

    def test_one_bad_step_or_touch_is_enough(self):
        self.assertFalse(self.kept(self.changed(5, ring=5), self.touches))
        self.assertFalse(self.kept(self.steps, self.touches + [(6, 1, 0, "r")]))
        self.assertFalse(self.kept(self.steps, [(6, 1, 0, "r")] + self.touches))

    def test_arguments_by_place_and_by_name(self):
        self.assertIs(keeps(touches=self.touches, steps=self.steps, ring=4, machine=self.machine), True)
        self.assertIs(keeps(self.machine, 5, touches=self.touches, steps=self.steps), False)

    def test_nothing_that_is_handed_in_changes(self):
        for steps in (self.steps, self.changed(3, place=2)):
            before = (list(steps), list(self.touches), [self.machine.segment(number) for number in range(4)])
            keeps(self.machine, 4, steps, self.touches)
            self.assertEqual((steps, self.touches, [self.machine.segment(number) for number in range(4)]), before)


class Touches(Base):
    def test_what_each_ring_may_do(self):
        for number in range(4):
            for ring in range(8):
                read, written, run, called = allowed(self.machine, ring)[number]
                self.assertIs(self.kept([], [(ring, number, 0, "r")]), read)
                self.assertIs(self.kept([], [(ring, number, 0, "w")]), written)

    def test_of_no_word(self):
        for number, many in enumerate([1, 2, 3, 1]):
            for place in range(many):
                self.assertEqual(self.kept([], [(0, number, place, "r")]), number != 0)
            for place in (-1, -2, -many, many, many + 1, 16, BIG, -BIG):
                for way in "rw":
                    self.assertFalse(self.kept([], [(0, number, place, way)]))

    def test_of_no_segment(self):
        for number in (-1, -2, -4, 4, 5, 8, BIG, -BIG):
            for way in "rw":
                self.assertFalse(self.kept([], [(0, number, 0, way)]))

    def test_in_no_ring(self):
        for ring in (-1, -2, 8, 9, BIG, -BIG):
            for way in "rw":
                for number in range(4):
                    self.assertFalse(self.kept([], [(ring, number, 0, way)]))

    def test_the_hands_ring_and_the_steps_do_not_count(self):
        for ring in range(8):
            self.assertTrue(self.kept([], self.touches, ring=ring))

    def test_one_way_is_not_the_other(self):
        self.assertTrue(self.kept([], [(5, 1, 0, "r")]))
        self.assertFalse(self.kept([], [(5, 1, 0, "w")]))
        self.assertFalse(self.kept([], [(0, 3, 0, "w")]))
        blind = Machine([seg((4, 4, 4), "w", 0, [num(0)])])
        self.assertIs(keeps(blind, 4, [], [(4, 0, 0, "w")]), True)
        self.assertIs(keeps(blind, 4, [], [(4, 0, 0, "r")]), False)


class Steps(Base):
    def test_of_no_row(self):
        for at, many in enumerate([7, 4, 4, 7, 7, 7]):
            for place in (-1, -many, many, many + 1, 24, BIG, -BIG):
                self.assertFalse(self.kept(self.changed(at, place=place)))
        for place in (-1, 7, BIG):
            self.assertFalse(self.kept([(4, 1, place, 1)]))

    def test_of_no_segment(self):
        for at in range(6):
            for number in (-1, -3, -4, 4, 5, 8, BIG, -BIG):
                self.assertFalse(self.kept(self.changed(at, segment=number)))
        for number in (-1, -3, 4, BIG):
            self.assertFalse(self.kept([(4, number, 0, 1)]))

    def test_without_x(self):
        for rights in ("", "r", "w", "x", "rw", "rx", "wx", "rwx"):
            machine = Machine([seg((2, 5, 5), rights, 0, (), [RETURN])])
            self.assertIs(keeps(machine, 4, [(4, 0, 0, 1)], []), "x" in rights)

    def test_outside_the_bracket(self):
        for ring in range(8):
            self.assertIs(self.kept([(ring, 0, 0, 1)], ring=0), ring in (2, 3))
            self.assertIs(self.kept([(ring, 1, 0, 1)], ring=0), ring in (4, 5))
            self.assertIs(self.kept([(ring, 3, 0, 1)], ring=0), ring in (6, 7))
        for ring in (-1, 8, BIG, -BIG):
            for number in range(4):
                self.assertFalse(self.kept([(ring, number, 0, 1)], ring=0))
            for at in range(6):
                self.assertFalse(self.kept(self.changed(at, ring=ring)))


class FirstStep(Base):
    def test_calls(self):
        for calls in (-2, -1, 0, 2, 3, 9, BIG, -BIG):
            self.assertFalse(self.kept([(4, 1, 0, calls)]))
            farther = [(*step[:3], step[3] + calls - 1) for step in self.steps]
            self.assertFalse(self.kept(farther))

    def entered(self, brackets, gates, place, ring, *, hand):
        machine = Machine([seg(brackets, "x", gates, (), [RETURN, RETURN])])
        return keeps(machine, hand, [(ring, 0, place, 1)], [])

    def test_outward_and_within_from_the_hands_ring_on(self):
        for hand in range(8):
            for ring in range(2, 5):
                self.assertIs(self.entered((2, 4, 4), 0, 0, ring, hand=hand), hand <= ring)

    def test_inward_by_gates_alone(self):
        for hand in range(8):
            self.assertIs(self.entered((2, 4, 6), 1, 0, 4, hand=hand), hand <= 6)
            self.assertIs(self.entered((2, 4, 6), 1, 1, 4, hand=hand), hand <= 4)
            self.assertIs(self.entered((2, 4, 6), 2, 1, 4, hand=hand), hand <= 6)
            self.assertIs(self.entered((2, 4, 6), 1, 0, 3, hand=hand), hand <= 3)
            self.assertIs(self.entered((2, 4, 6), 1, 0, 2, hand=hand), hand <= 2)

    def test_every_bracket_against_what_calls_lead_to(self):
        for r1 in range(0, 8, 2):
            for r2 in range(r1, 8):
                for r3 in range(r2, 8, 2):
                    for gates in range(3):
                        self.against_calls(Machine([seg((r1, r2, r3), "x", gates, (), [RETURN, RETURN])]))

    def against_calls(self, machine):
        for place in range(2):
            led = []
            for e in range(8):
                steps = trace(machine, stand_of(machine, e, 0, [(e, 0, place)]), ("call", 0))[0]
                led.append(steps[0][0] if steps else None)
            for hand in range(8):
                for ring in range(8):
                    self.assertIs(keeps(machine, hand, [(ring, 0, place, 1)], []), ring in led[hand:])


class AsManyCalls(Base):
    def test_ring_and_segment_are_the_same(self):
        self.assertTrue(self.kept([(4, 1, 1, 1), (4, 1, 2, 1)]))
        self.assertFalse(self.kept([(4, 1, 1, 1), (5, 1, 2, 1)]))
        self.assertFalse(self.kept([(5, 1, 1, 1), (4, 1, 2, 1)]))
        twins = Machine([seg((4, 4, 4), "x", 0, (), [("set", 1), RETURN])] * 2)
        self.assertIs(keeps(twins, 4, [(4, 0, 0, 1), (4, 0, 1, 1)], []), True)
        self.assertIs(keeps(twins, 4, [(4, 0, 0, 1), (4, 1, 1, 1)], []), False)

    def test_a_call_or_a_return_is_not_followed_so(self):
        for place in range(7):
            word = self.machine.segment(1)[4][place][0]
            for after in range(7):
                told = self.kept([(4, 1, place, 1), (4, 1, after, 1)])
                self.assertIs(told, word not in ("call", "return"))

    def test_each_word(self):
        rows = [("set", 1), ("add", 1), ("load", 0, 0), ("store", 0, 0), ("fetch", 0, 0, 0), ("keep", 0, 0, 0),
                ("aim", 0, 0, 0), ("move", 0, 0, 0), ("zero", 0), ("go", 0), ("call", 0), RETURN]
        machine = Machine([seg((4, 4, 4), "x", 0, (), rows)])
        for place in range(12):
            for after in range(12):
                told = keeps(machine, 4, [(4, 0, place, 1), (4, 0, after, 1)], [])
                self.assertIs(told, place < 10)

    def test_within_a_call(self):
        self.assertFalse(self.kept(self.changed(2, ring=2)))
        self.assertFalse(self.kept(self.changed(4, ring=5)))
        self.assertFalse(self.kept(self.changed(4, segment=3)))


class OneCallMore(Base):
    def test_a_call_that_is_none(self):
        for place in range(7):
            word = self.machine.segment(1)[4][place][0]
            self.assertIs(self.kept([(4, 1, place, 1), (3, 0, 0, 2)]), word == "call")

    def test_the_row_is_entered_from_the_steps_ring(self):
        for ring in (4, 5):
            self.assertTrue(self.kept([(ring, 1, 0, 1), (3, 0, 0, 2)]))
            self.assertFalse(self.kept([(ring, 1, 0, 1), (3, 0, 2, 2)]))
            self.assertFalse(self.kept([(ring, 1, 0, 1), (2, 0, 0, 2)]))
            self.assertTrue(self.kept([(ring, 1, 0, 1), (6, 3, 0, 2)]))
            self.assertTrue(self.kept([(ring, 1, 0, 1), (7, 3, 0, 2)]))
            self.assertTrue(self.kept([(ring, 1, 0, 1), (5, 1, 6, 2)]))
            self.assertIs(self.kept([(ring, 1, 0, 1), (4, 1, 6, 2)]), ring == 4)

    def test_not_from_the_hands_ring(self):
        """The hand's ring 0 is let into every bracket, but ring 7 calls none of them."""
        self.assertTrue(self.kept([(6, 3, 0, 1), (3, 0, 0, 2)], ring=0))
        self.assertFalse(self.kept([(7, 3, 0, 1), (3, 0, 0, 2)], ring=0))
        self.assertFalse(self.kept([(6, 3, 0, 1), (4, 1, 0, 2)], ring=0))
        self.assertTrue(self.kept([(4, 1, 0, 1), (3, 0, 0, 2)], ring=0))

    def test_two_calls_more(self):
        self.assertFalse(self.kept([(4, 1, 0, 1), (3, 0, 0, 3)]))
        self.assertFalse(self.kept([(4, 1, 0, 1), (3, 0, 0, BIG)]))

    def test_how_many_calls_is_not_asked(self):
        self.assertTrue(self.kept([(4, 1, 0, calls) for calls in range(1, 100)]))
        deep = [(4, 1, 0, calls) for calls in range(1, 40)] + [(4, 1, 6, 40)]
        back = [step for calls in range(39, 0, -1) for step in [(4, 1, 1, calls), (4, 1, 3, calls)]]
        self.assertTrue(self.kept(deep + back))
        self.assertFalse(self.kept(deep + back[1:]))


class OneCallLess(Base):
    def test_a_return_that_is_none(self):
        ahead = [(4, 1, 0, 1), (3, 0, 0, 2)]
        for place in range(4):
            word = self.machine.segment(0)[4][place][0]
            self.assertIs(self.kept(ahead + [(3, 0, place, 2), (4, 1, 1, 1)]), word == "return")
        self.assertFalse(self.kept([(4, 1, 0, 1), (4, 1, 0, 2), (4, 1, 1, 1)]))

    def test_to_another_ring_segment_or_place(self):
        ahead = self.steps[:3]
        self.assertTrue(self.kept(ahead + [(4, 1, 1, 1)]))
        self.assertFalse(self.kept(ahead + [(5, 1, 1, 1)]))
        self.assertFalse(self.kept(ahead + [(3, 0, 1, 1)]))
        for place in (0, 2, 3, 4, 5, 6):
            self.assertFalse(self.kept(ahead + [(4, 1, place, 1)]))
        twins = Machine([seg((4, 4, 4), "x", 0, (), [("call", 0), RETURN])] * 2)
        for number in (0, 1):
            told = keeps(twins, 4, [(4, 0, 0, 1), (4, 1, 1, 2), (4, number, 1, 1)], [])
            self.assertIs(told, number == 0)

    def test_the_last_step_with_so_many_calls(self):
        """Two calls from one level: the return goes behind the second one."""
        inner = [(3, 0, 0, 2), (3, 0, 1, 2)]
        ahead = [(4, 1, 4, 1)] + inner + [(4, 1, 5, 1)] + inner
        self.assertTrue(self.kept(ahead + [(4, 1, 6, 1)]))
        self.assertFalse(self.kept(ahead + [(4, 1, 5, 1)]))

    def test_there_is_no_step_with_so_many_calls(self):
        self.assertFalse(self.kept([(4, 1, 3, 1), (4, 1, 4, 0)]))
        self.assertFalse(self.kept(self.steps + [(4, 1, 4, 0)]))
        self.assertFalse(self.kept(self.steps + [(4, 1, 4, 1)]))

    def test_two_calls_less(self):
        deep = [(4, 1, 0, 1), (4, 1, 0, 2), (4, 1, 6, 3)]
        self.assertTrue(self.kept(deep + [(4, 1, 1, 2)]))
        self.assertFalse(self.kept(deep + [(4, 1, 1, 1)]))

    def test_from_two_levels(self):
        inner = [(3, 0, 0, 3), (3, 0, 1, 3)]
        deep = [(4, 1, 0, 1), (5, 1, 4, 2)] + inner + [(5, 1, 5, 2)] + inner + [(5, 1, 6, 2), (4, 1, 1, 1)]
        self.assertTrue(self.kept(deep))
        for at, step in enumerate(deep):
            for part in range(4):
                for more in (-1, 1):
                    moved = (*step[:part], step[part] + more, *step[part + 1:])
                    self.assertFalse(self.kept(deep[:at] + [moved] + deep[at + 1:]), (at, moved))


def entered(machine, step, ring):
    """Whether some call from a ring, done by a hand, leads to the row and ring of a step."""
    led = [trace(machine, stand_of(machine, e, 0, [(e, *step[1:3])]), ("call", 0))[0][:1] for e in range(ring, 8)]
    return [(*step[:3], 1)] in led


def expected(machine, hand, steps, touches):
    """What point 12 says, sentence by sentence."""
    ways = [allowed(machine, ring) for ring in range(8)]
    for ring, number, place, way in touches:
        if ring not in range(8) or number not in range(len(machine)):
            return False
        if place not in range(len(machine.segment(number)[3])) or not ways[ring][number]["rw".index(way)]:
            return False
    for at, (ring, number, place, calls) in enumerate(steps):
        if ring not in range(8) or number not in range(len(machine)):
            return False
        if place not in range(len(machine.segment(number)[4])) or not ways[ring][number][2]:
            return False
        if at == 0:
            if calls != 1 or not entered(machine, steps[0], hand):
                return False
            continue
        before = steps[at - 1]
        word = machine.segment(before[1])[4][before[2]][0]
        if calls == before[3]:
            good = (ring, number) == before[:2] and word not in ("call", "return")
        elif calls == before[3] + 1:
            good = word == "call" and entered(machine, steps[at], before[0])
        else:
            last = [step for step in steps[:at] if step[3] == calls][-1:]
            good = calls == before[3] - 1 and word == "return" and last != []
            good = good and (ring, number, place) == (*last[0][:2], last[0][2] + 1)
        if not good:
            return False
    return True


class Drawn(unittest.TestCase):
    """Traces of drawn machines are kept; and each, changed somewhere, just where point 12 says so."""

    def traces(self, seeds):
        for seed in seeds:
            draw = Draw(seed)
            ring = draw.random.randrange(8)
            machine = draw.machine(ring, True)
            stand = first(machine, ring)
            for deed in draw.deeds(machine):
                yield draw, machine, ring, trace(machine, stand, deed)
                stand = done_all(machine, stand, [deed])[0]

    def test_the_programs_own_traces_are_kept(self):
        nested = 0
        for draw, machine, ring, (steps, touches) in self.traces(range(300)):
            self.assertIs(keeps(machine, ring, steps, touches), True)
            nested += any(step[3] > 1 for step in steps)
        self.assertGreater(nested, 50)

    def changed(self, draw, told):
        """A list with one part of one of its tuples changed a little."""
        made = list(told)
        at, part = draw.random.randrange(len(made)), draw.random.randrange(4)
        each = list(made[at])
        each[part] = {"r": "w", "w": "r"}.get(each[part]) or each[part] + draw.random.choice([-8, -2, -1, 1, 2, 8])
        made[at] = tuple(each)
        return made

    def test_changed_traces(self):
        told = {True: 0, False: 0}
        for draw, machine, ring, (steps, touches) in self.traces(range(250)):
            for part in range(3):
                cases = [(self.changed(draw, steps), touches)] if steps else []
                cases += [(steps, self.changed(draw, touches))] if touches else []
                cases += [(steps[1:], touches), (steps[:1] + steps[2:], touches)]
                for other_steps, other_touches in cases:
                    truth = expected(machine, ring, other_steps, other_touches)
                    self.assertIs(keeps(machine, ring, other_steps, other_touches), truth)
                    told[truth] += bool(other_steps)
        self.assertGreater(min(told.values()), 200)


if __name__ == "__main__":
    unittest.main()
