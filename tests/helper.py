"""Short ways to write segments, words and stands in the tests."""

from ringgates.deeds import done
from ringgates.machines import Machine

BIG = 10 ** 59 + 7  # sixty figures


def seg(brackets=(0, 7, 7), rights="rwx", gates=0, words=(), rows=()):
    return (brackets, rights, gates, tuple(words), tuple(rows))


def num(n):
    return ("num", n)


def ptr(ring, segment, place):
    return ("ptr", ring, segment, place)


def stand_of(machine, ring, a=0, pointers=()):
    """A stand with these first pointers and the machine's own words."""
    pointers = tuple(pointers) + (None,) * (4 - len(pointers))
    memory = tuple(machine.segment(number)[3] for number in range(len(machine)))
    return (ring, a, pointers, memory)


def fault(cause):
    return ("fault", cause)


DONE = ("done",)


def with_rows(segments, rows, *, base=16):
    """A machine with one more segment, which any ring runs and which has these rows."""
    code = seg((0, 7, 7), "x", 0, (), rows)
    return Machine(list(segments) + [code], base=base)


def run_rows(segments, rows, ring, a=0, pointers=(), *, base=16, most=100):
    """Do these rows, and a return, in the hand's ring: by a call of pointer 3."""
    machine = with_rows(segments, tuple(rows) + (("return",),), base=base)
    pointers = tuple(pointers) + (None,) * (3 - len(pointers)) + ((ring, len(segments), 0),)
    return done(machine, stand_of(machine, ring, a, pointers), ("call", 3), most=most)
