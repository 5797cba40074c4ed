"""Point 4, as far as machines and deeds go: many machines and rows of deeds, drawn by a fixed seed."""

import random
import unittest

from ringgates.deeds import done, first
from ringgates.machines import Machine, allowed
from tests.helper import num, ptr

CAUSES = ["pointer", "bounds", "read", "write", "kind", "run", "entry", "gate", "call", "deep", "row", "hand", "long"]


class Draw:
    """Machines and deeds by chance; small numbers, so that many of them fit one another."""

    def __init__(self, seed):
        self.random = random.Random(seed)

    def word(self, many):
        if self.random.random() < 0.5:
            return num(self.random.randrange(4))
        return ptr(self.random.randrange(8), self.random.randrange(many), self.random.randrange(3))

    def row(self, many, aims):
        pick = self.random.randrange
        q, p, w = pick(4), pick(4), self.random.choice([-1, 0, 0, 0, 1])
        choices = [
            ("set", pick(4)), ("add", 1), ("load", p, w), ("store", p, w), ("fetch", q, p, w), ("keep", q, p, w),
            ("move", q, p, w), ("call", p),
        ]
        if aims:
            choices += [("aim", q, pick(many), pick(2))] * 3
        return self.random.choice(choices)

    def rows(self, many, aims):
        """A few rows, now and then a jump among them, and mostly a return behind them."""
        made = [self.row(many, aims) for place in range(self.random.randrange(1, 5))]
        if self.random.random() < 0.2:
            made.insert(0, (self.random.choice(["zero", "go"]), self.random.randrange(len(made) + 2)))
        return tuple(made) + (("return",),) * (self.random.random() < 0.9)

    def brackets(self):
        drawn = sorted(self.random.randrange(8) for place in range(3))
        return self.random.choice([tuple(drawn), (drawn[0], drawn[0], 7), (drawn[0], drawn[1], 7)])

    def segment(self, many, ring, inner_aims):
        brackets = self.brackets()
        rights = self.random.choice(["", "r", "w", "x", "rw", "rw", "rx", "rx", "wx", "rwx", "rwx", "rwx"])
        inner = "w" not in rights or ring > brackets[0]
        rows = self.rows(many, inner_aims or not inner)
        words = tuple(self.word(many) for place in range(self.random.randrange(1, 4)))
        return (brackets, rights, self.random.randrange(len(rows) + 1), words, rows)

    def machine(self, ring, inner_aims):
        many = self.random.randrange(2, 6)
        return Machine([self.segment(many, ring, inner_aims) for place in range(many)], base=4)

    def deeds(self, machine):
        """Rounds that aim all pointers first, since a fault takes them."""
        many, pick = len(machine), self.random.randrange
        made = []
        for place in range(10):
            made += [("aim", q, pick(many), pick(2)) for q in range(4)] + [("set", pick(4))]
            made += [self.row(many, True), ("call", pick(4))]
        return made + [self.random.choice([("zero", 0), ("go", 0), ("return",)])]


def unhidden(machine, stand):
    """What the hand's ring may read of a stand."""
    ways = allowed(machine, stand[0])
    return (stand[1], stand[2], [words if way[0] else None for words, way in zip(stand[3], ways)])


class Whole(unittest.TestCase):
    def drawn(self, seeds, inner_aims):
        for seed in seeds:
            draw = Draw(seed)
            ring = draw.random.randrange(8)
            machine = draw.machine(ring, inner_aims)
            yield draw, machine, ring, draw.deeds(machine)

    def test_what_each_stand_is_like(self):
        met = set()
        for draw, machine, ring, deeds in self.drawn(range(400), True):
            stand = first(machine, ring)
            for deed in deeds:
                new, told = done(machine, stand, deed)
                self.assertEqual((new, told), done(machine, stand, deed))
                self.assertEqual(new[0], ring)
                self.assertIn(new[1], range(4))
                self.assertEqual(len(new[2]), 4)
                for pointer in new[2]:
                    self.assertTrue(pointer is None or ring <= pointer[0] <= 7)
                self.assertEqual([len(words) for words in new[3]], [len(words) for words in stand[3]])
                self.like_the_machines_words(machine, new)
                if told != ("done",):
                    self.assertEqual((told[0], new[1:3]), ("fault", (0, (None,) * 4)))
                met.add(told[-1])
                stand = new
        self.assertEqual(met, {"done"} | set(CAUSES))

    def like_the_machines_words(self, machine, stand):
        """The words of every stand could be a machine's."""
        segments = [machine.segment(number) for number in range(len(machine))]
        Machine([(*segment[:3], words, segment[4]) for segment, words in zip(segments, stand[3])], base=4)

    def test_no_word_of_an_inner_segment_changes_where_none_of_them_aims(self):
        changed = 0
        for draw, machine, ring, deeds in self.drawn(range(400), False):
            start = stand = first(machine, ring)
            ways = allowed(machine, ring)
            for deed in deeds:
                stand, told = done(machine, stand, deed)
                for way, before, now in zip(ways, start[3], stand[3]):
                    if not way[1]:
                        self.assertEqual(now, before)
                    changed += now != before
        self.assertGreater(changed, 100)

    def test_nothing_is_learned_of_hidden_words_where_none_of_them_aims(self):
        hidden = 0
        for draw, machine, ring, deeds in self.drawn(range(400), False):
            ways = allowed(machine, ring)
            segments = [machine.segment(number) for number in range(len(machine))]
            others = [
                segment if way[0] else (*segment[:3], tuple(draw.word(len(machine)) for word in segment[3]), segment[4])
                for segment, way in zip(segments, ways)
            ]
            hidden += others != segments
            other = Machine(others, base=4)
            stand, other_stand = first(machine, ring), first(other, ring)
            for deed in deeds:
                stand, told = done(machine, stand, deed)
                other_stand, other_told = done(other, other_stand, deed)
                self.assertEqual(told, other_told)
                self.assertEqual(unhidden(machine, stand), unhidden(other, other_stand))
        self.assertGreater(hidden, 100)

    def test_an_inner_aim_can_be_a_hole(self):
        inner = ((1, 1, 1), "rw", 0, (num(3),), ())
        gate = ((1, 1, 7), "x", 1, (), (("aim", 1, 0, 0), ("store", 1, 0), ("return",)))
        machine = Machine([inner, gate])
        stand = first(machine, 5)
        for deed in [("set", 8), ("aim", 0, 1, 0), ("call", 0)]:
            stand, told = done(machine, stand, deed)
        self.assertEqual(stand[3][0], (num(8),))


if __name__ == "__main__":
    unittest.main()
