"""Machines, and what each ring may do with their segments."""

from ringgates.errors import NoMachine, NoRing, NoSegment
from ringgates.forms import LEAST_BASE, MOST_SEGMENTS, RINGS, is_below, is_ring, is_whole, segment_fits

BASE = 16


class Machine:
    """Segments, numbered from 0, and the base that bounds their numbers."""

    def __init__(self, segments, *, base=BASE):
        many = len(segments)
        if not 1 <= many <= MOST_SEGMENTS or not is_whole(base) or base < LEAST_BASE:
            raise NoMachine(None)
        for number, segment in enumerate(segments):
            if not segment_fits(segment, base, many):
                raise NoMachine(number)
        self.segments = tuple(segments)
        self.base = base

    def segment(self, number):
        """The segment of this number: (brackets, rights, gates, words, rows)."""
        if not is_below(number, len(self.segments)):
            raise NoSegment(number)
        return self.segments[number]

    def __len__(self):
        return len(self.segments)

    def __eq__(self, other):
        return isinstance(other, Machine) and self.base == other.base and self.segments == other.segments

    def __ne__(self, other):
        return not self == other


def may_read(segment, ring):
    """Whether the words of a segment may be read in a ring."""
    brackets, rights = segment[:2]
    return "r" in rights and ring <= brackets[1]


def may_write(segment, ring):
    """Whether the words of a segment may be written in a ring."""
    brackets, rights = segment[:2]
    return "w" in rights and ring <= brackets[0]


def may_run(segment, ring):
    """Whether a ring runs the rows of a segment."""
    brackets, rights = segment[:2]
    return "x" in rights and brackets[0] <= ring <= brackets[1]


def may_call(segment, ring):
    """Whether a segment may be called inward from a ring."""
    brackets, rights = segment[:2]
    return "x" in rights and brackets[1] < ring <= brackets[2]


def ways_in(segment, ring):
    """The truths (read, written, run, called) of a ring for one segment."""
    return (may_read(segment, ring), may_write(segment, ring), may_run(segment, ring), may_call(segment, ring))


def allowed(machine, ring):
    """For each segment the truths (read, written, run, called) of this ring."""
    if not is_ring(ring):
        raise NoRing(ring)
    return [ways_in(segment, ring) for segment in machine.segments]


def table(machine):
    """What each ring may do with each segment, ring by ring."""
    return [allowed(machine, ring) for ring in range(RINGS)]
