"""Short ways to write segments, words and stands in the tests, and machines and deeds drawn by a fixed seed."""

import random

from ringgates.deeds import done
from ringgates.machines import Machine

BIG = 10 ** 59 + 7  # sixty figures


def seg(brackets=(0, 7, 7), rights="rwx", gates=0, words=(), rows=()):
    return (brackets, rights, gates, tuple(words), tuple(rows))


def num(n):
    return ("num", n)


def ptr(ring, segment, place):
    return ("ptr", ring, segment, place)


def stand_of(machine, ring, a=0, pointers=()):
    """A stand with these first pointers and the machine's own words."""
    pointers = tuple(pointers) + (None,) * (4 - len(pointers))
    memory = tuple(machine.segment(number)[3] for number in range(len(machine)))
    return (ring, a, pointers, memory)


def fault(cause):
    return ("fault", cause)


DONE = ("done",)


def with_rows(segments, rows, *, base=16):
    """A machine with one more segment, which any ring runs and which has these rows."""
    code = seg((0, 7, 7), "x", 0, (), rows)
    return Machine(list(segments) + [code], base=base)


def run_rows(segments, rows, ring, a=0, pointers=(), *, base=16, most=100):
    """Do these rows, and a return, in the hand's ring: by a call of pointer 3."""
    machine = with_rows(segments, tuple(rows) + (("return",),), base=base)
    pointers = tuple(pointers) + (None,) * (3 - len(pointers)) + ((ring, len(segments), 0),)
    return done(machine, stand_of(machine, ring, a, pointers), ("call", 3), most=most)


class Draw:
    """Machines and deeds by chance; small numbers, so that many of them fit one another."""

    def __init__(self, seed):
        self.random = random.Random(seed)

    def word(self, many):
        if self.random.random() < 0.5:
            return num(self.random.randrange(4))
        return ptr(self.random.randrange(8), self.random.randrange(many), self.random.randrange(3))

    def row(self, many, aims):
        pick = self.random.randrange
        q, p, w = pick(4), pick(4), self.random.choice([-1, 0, 0, 0, 1])
        choices = [
            ("set", pick(4)), ("add", 1), ("load", p, w), ("store", p, w), ("fetch", q, p, w), ("keep", q, p, w),
            ("move", q, p, w), ("call", p),
        ]
        if aims:
            choices += [("aim", q, pick(many), pick(2))] * 3
        return self.random.choice(choices)

    def rows(self, many, aims):
        """A few rows, now and then a jump among them, and mostly a return behind them."""
        made = [self.row(many, aims) for place in range(self.random.randrange(1, 5))]
        if self.random.random() < 0.2:
            made.insert(0, (self.random.choice(["zero", "go"]), self.random.randrange(len(made) + 2)))
        return tuple(made) + (("return",),) * (self.random.random() < 0.9)

    def brackets(self):
        drawn = sorted(self.random.randrange(8) for place in range(3))
        return self.random.choice([tuple(drawn), (drawn[0], drawn[0], 7), (drawn[0], drawn[1], 7)])

    def segment(self, many, ring, inner_aims):
        brackets = self.brackets()
        rights = self.random.choice(["", "r", "w", "x", "rw", "rw", "rx", "rx", "wx", "rwx", "rwx", "rwx"])
        inner = "w" not in rights or ring > brackets[0]
        rows = self.rows(many, inner_aims or not inner)
        words = tuple(self.word(many) for place in range(self.random.randrange(1, 4)))
        return (brackets, rights, self.random.randrange(len(rows) + 1), words, rows)

    def machine(self, ring, inner_aims):
        many = self.random.randrange(2, 6)
        return Machine([self.segment(many, ring, inner_aims) for place in range(many)], base=4)

    def deeds(self, machine):
        """Rounds that aim all pointers first, since a fault takes them."""
        many, pick = len(machine), self.random.randrange
        made = []
        for place in range(10):
            made += [("aim", q, pick(many), pick(2)) for q in range(4)] + [("set", pick(4))]
            made += [self.row(many, True), ("call", pick(4))]
        return made + [self.random.choice([("zero", 0), ("go", 0), ("return",)])]


def drawn(seeds, inner_aims):
    """For each seed: the draw, a machine, a ring for the hand, and deeds."""
    for seed in seeds:
        draw = Draw(seed)
        ring = draw.random.randrange(8)
        machine = draw.machine(ring, inner_aims)
        yield draw, machine, ring, draw.deeds(machine)
