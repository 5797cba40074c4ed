"""Brackets and rights for a table of wishes: which rings are to read, write, run and call a segment."""

from ringgates.errors import NoRing
from ringgates.forms import RINGS, is_ring
from ringgates.machines import ways_in


def brackets_for(reads, writes, runs, calls):
    """The least (brackets, rights) that let just these rings, or None where none do."""
    refuse_no_ring(reads, writes, runs, calls)
    wished = wished_ways(reads, writes, runs, calls)
    rights = rights_for(reads, writes, runs, calls)
    fitting = [brackets for brackets in all_brackets() if given_ways(brackets, rights) == wished]
    return (min(fitting), rights) if fitting else None


def opening(reads, writes, runs, calls):
    """The least (brackets, rights) of those that let these rings and the fewest others, or None."""
    refuse_no_ring(reads, writes, runs, calls)
    wished = wished_ways(reads, writes, runs, calls)
    rights = rights_for(reads, writes, runs, calls)
    open_enough = []
    for brackets in all_brackets():
        given = given_ways(brackets, rights)
        if lets_all(given, wished):
            # All that is wished is in each of these numbers, so that the least one has the fewest others.
            open_enough.append((how_many(given), brackets))
    if not open_enough:
        return None
    many, brackets = min(open_enough)
    return (brackets, rights)


def refuse_no_ring(reads, writes, runs, calls):
    """Refuse the first number, list by list, that is no ring."""
    for rings in (reads, writes, runs, calls):
        for ring in rings:
            if not is_ring(ring):
                raise NoRing(ring)


def wished_ways(reads, writes, runs, calls):
    """The truths (read, written, run, called) that are wished, ring by ring."""
    return [(ring in reads, ring in writes, ring in runs, ring in calls) for ring in range(RINGS)]


def given_ways(brackets, rights):
    """The truths (read, written, run, called) that brackets and rights give, ring by ring."""
    segment = (brackets, rights, 0, (), ())
    return [ways_in(segment, ring) for ring in range(RINGS)]


def rights_for(reads, writes, runs, calls):
    """The rights that the wishes need: one more would let some ring do what none is to, whatever the brackets."""
    return ("r" if reads else "") + ("w" if writes else "") + ("x" if runs or calls else "")


def all_brackets():
    """All brackets, from the least on."""
    return [
        (r1, r2, r3) for r1 in range(RINGS) for r2 in range(r1, RINGS) for r3 in range(r2, RINGS)
    ]


def lets_all(given, wished):
    """Whether all that is wished is given."""
    return all([
        may or not wish for ways, wishes in zip(given, wished) for may, wish in zip(ways, wishes)
    ])


def how_many(given):
    """How much is given, counted ring by ring and way by way."""
    return sum([ways.count(True) for ways in given])
