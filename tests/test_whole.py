"""Point 4, over the whole program: many machines and deeds, drawn by a fixed seed."""

import unittest

from ringgates.deeds import done, first
from ringgates.desk import Desk
from ringgates.errors import TooMany
from ringgates.learning import aiming, alike, alike_holds, parting
from ringgates.machines import Machine, allowed
from ringgates.reaches import paper, paper_holds, way
from ringgates.texts import show_deeds, show_machine
from ringgates.traces import keeps, trace
from tests.helper import drawn, num

CAUSES = ["pointer", "bounds", "read", "write", "kind", "run", "entry", "gate", "call", "deep", "row", "hand", "long"]


def unhidden(machine, stand):
    """What the hand's ring may read of a stand."""
    ways = allowed(machine, stand[0])
    return (stand[1], stand[2], [words if way[0] else None for words, way in zip(stand[3], ways)])


class Whole(unittest.TestCase):
    def test_what_each_stand_is_like(self):
        met = set()
        for draw, machine, ring, deeds in drawn(range(400), True):
            stand = first(machine, ring)
            for deed in deeds:
                new, told = done(machine, stand, deed)
                self.assertEqual((new, told), done(machine, stand, deed))
                self.assertEqual(new[0], ring)
                self.assertIn(new[1], range(4))
                self.assertEqual(len(new[2]), 4)
                for pointer in new[2]:
                    self.assertTrue(pointer is None or ring <= pointer[0] <= 7)
                self.assertEqual([len(words) for words in new[3]], [len(words) for words in stand[3]])
                self.like_the_machines_words(machine, new)
                if told != ("done",):
                    self.assertEqual((told[0], new[1:3]), ("fault", (0, (None,) * 4)))
                met.add(told[-1])
                stand = new
        self.assertEqual(met, {"done"} | set(CAUSES))

    def like_the_machines_words(self, machine, stand):
        """The words of every stand could be a machine's."""
        segments = [machine.segment(number) for number in range(len(machine))]
        Machine([(*segment[:3], words, segment[4]) for segment, words in zip(segments, stand[3])], base=4)

    def test_no_word_of_an_inner_segment_changes_where_none_of_them_aims(self):
        changed = 0
        for draw, machine, ring, deeds in drawn(range(400), False):
            start = stand = first(machine, ring)
            ways = allowed(machine, ring)
            for deed in deeds:
                stand, told = done(machine, stand, deed)
                for way, before, now in zip(ways, start[3], stand[3]):
                    if not way[1]:
                        self.assertEqual(now, before)
                    changed += now != before
        self.assertGreater(changed, 100)

    def test_nothing_is_learned_of_hidden_words_where_none_of_them_aims(self):
        hidden = 0
        for draw, machine, ring, deeds in drawn(range(400), False):
            other = self.other_hidden_words(draw, machine, ring)
            hidden += other != machine
            stand, other_stand = first(machine, ring), first(other, ring)
            for deed in deeds:
                stand, told = done(machine, stand, deed)
                other_stand, other_told = done(other, other_stand, deed)
                self.assertEqual(told, other_told)
                self.assertEqual(unhidden(machine, stand), unhidden(other, other_stand))
        self.assertGreater(hidden, 100)

    def test_each_touch_is_by_the_hands_right_where_no_inner_segment_aims(self):
        touched = 0
        for draw, machine, ring, deeds in drawn(range(300), False):
            self.assertEqual(aiming(machine, ring), [])
            stand = first(machine, ring)
            for deed in deeds:
                steps, touches = trace(machine, stand, deed)
                self.assertIs(keeps(machine, ring, steps, touches), True)
                self.assertTrue(all(touch[0] >= ring for touch in touches))
                touched += bool(steps and touches)
                stand = done(machine, stand, deed)[0]
        self.assertGreater(touched, 50)

    def answer(self, function, *arguments):
        """What is told, or the class of the refusal."""
        try:
            return function(*arguments, limit=60)
        except TooMany:
            return TooMany

    def test_no_way_to_a_hole_and_no_parting_where_no_inner_segment_aims(self):
        holes = partings = 0
        for draw, machine, ring, deeds in drawn(range(150), False):
            ways = allowed(machine, ring)
            start, menu = first(machine, ring), draw.random.sample(deeds, 5)
            for number, words in enumerate(start[3]):
                wish = (number, 0, draw.word(len(machine)))
                if ways[number][1] or words[0] == wish[2]:
                    continue
                told = self.answer(paper, machine, start, menu, wish)
                self.assertIsNotNone(told)
                self.assertIn(self.answer(way, machine, start, menu, wish), (None, TooMany))
                if told != TooMany:
                    self.assertIs(paper_holds(machine, start, menu, wish, told), True)
                    holes += 1
            other = self.other_hidden_words(draw, machine, ring)
            pair = (machine, other, start, first(other, ring), menu)
            self.assertIn(self.answer(parting, *pair), (None, TooMany))
            told = self.answer(alike, *pair)
            if told != TooMany:
                self.assertIs(alike_holds(*pair, told), True)
                partings += 1
        self.assertGreater(min(holes, partings), 50)

    def desk(self, machine, ring):
        desk = Desk()
        self.assertEqual(desk.say("machine " + show_machine(machine)), "ok")
        self.assertEqual(desk.say(f"sit {ring}"), "ok")
        return desk

    def rows_at_a_desk(self, draw, deeds):
        """Deeds, some of them taken back, and questions between."""
        rows = []
        for deed in deeds:
            rows += ["touch " + show_deeds([deed]), "do " + show_deeds([deed])]
            rows += ["back"] * (draw.random.random() < 0.1)
        return rows

    def test_at_a_desk_nothing_is_learned_and_nothing_inner_changes_where_none_of_them_aims(self):
        hidden = inner = 0
        for draw, machine, ring, deeds in drawn(range(120), False):
            other = self.other_hidden_words(draw, machine, ring)
            hidden += other != machine
            asked = ["show", "table", "aims"] + [f"see {number}" for number in range(len(machine))]
            one, two = self.desk(machine, ring), self.desk(other, ring)
            self.assertEqual(one.say("aims"), "none")
            start = [one.say(row) for row in asked]
            for row in self.rows_at_a_desk(draw, deeds):
                self.assertEqual(one.say(row), two.say(row))
                told = [one.say(row) for row in asked]
                self.assertEqual(told, [two.say(row) for row in asked])
                for way, before, now in zip(allowed(machine, ring), start[3:], told[3:]):
                    if not way[1]:
                        self.assertEqual(now, before)
                        inner += now != "hidden"
        self.assertGreater(min(hidden, inner), 40)

    def test_at_a_desk_an_inner_aim_can_be_a_hole(self):
        desk = Desk()
        rows = [
            "machine 16; 1.1.1 rw 0 [3] (); 1.1.7 x 1 [] (aim 1 0 0, load 1 0, return)", "aims", "do aim 0 1 0, call 0",
            "show", "back", "show",
        ]
        self.assertEqual([desk.say(row) for row in rows], [
            "ok", "1", "done done", "3 7:1:0 7:0:0 - -", "ok", "0 7:1:0 - - -"])

    def other_hidden_words(self, draw, machine, ring):
        """A machine that is unlike in the words of the segments hidden from a ring alone."""
        segments = [machine.segment(number) for number in range(len(machine))]
        return Machine([
            segment if way[0] else (*segment[:3], tuple(draw.word(len(machine)) for word in segment[3]), segment[4])
            for segment, way in zip(segments, allowed(machine, ring))
        ], base=4)

    def test_an_inner_aim_can_be_a_hole(self):
        inner = ((1, 1, 1), "rw", 0, (num(3),), ())
        gate = ((1, 1, 7), "x", 1, (), (("aim", 1, 0, 0), ("store", 1, 0), ("return",)))
        machine = Machine([inner, gate])
        stand = first(machine, 5)
        menu = [("set", 8), ("aim", 0, 1, 0), ("call", 0)]
        self.assertEqual(aiming(machine, 5), [1])
        self.assertEqual(way(machine, stand, menu, (0, 0, num(8))), [0, 1, 2])
        for deed in menu:
            stand, told = done(machine, stand, deed)
        self.assertEqual(stand[3][0], (num(8),))


if __name__ == "__main__":
    unittest.main()
