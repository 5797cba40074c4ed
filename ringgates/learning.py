"""What a hand can learn: what it sees, by which deeds two stands are told apart, and papers that by none."""

from ringgates.deeds import done, refuse_faulty
from ringgates.errors import NoRing, Unlike
from ringgates.finds import Finds
from ringgates.forms import is_ring
from ringgates.machines import may_read, may_write
from ringgates.reaches import LIMIT


def seen(machine, stand):
    """What a hand sees in a stand: (a, pointers, words), with () for the words of a hidden segment."""
    ring, a, pointers, memory = stand
    words = [part if may_read(segment, ring) else () for segment, part in zip(machine.segments, memory)]
    return (a, pointers, tuple(words))


def parting(one, other, stand, other_stand, menu, *, limit=LIMIT):
    """The least shortest row of numbers of deeds that tells the two stands apart, or None."""
    refuse_pair(one, other, stand, other_stand, menu)
    pairs, numbers = search_pairs(one, other, (stand, other_stand), menu, limit)
    return numbers


def alike(one, other, stand, other_stand, menu, *, limit=LIMIT):
    """The pairs of stands that can be come to, where no row of deeds tells the two apart, else None."""
    refuse_pair(one, other, stand, other_stand, menu)
    pairs, numbers = search_pairs(one, other, (stand, other_stand), menu, limit)
    return pairs if numbers is None else None


def alike_holds(one, other, stand, other_stand, menu, pairs):
    """Whether a paper of pairs shows that no row of deeds tells the two stands apart."""
    refuse_pair(one, other, stand, other_stand, menu)
    listed = {(left, right): True for left, right in pairs}
    if (stand, other_stand) not in listed:
        return False
    for pair in listed:
        if not seen_alike(one, other, pair):
            return False
        if not all([pair_behind(one, other, pair, deed) in listed for deed in menu]):
            return False
    return True


def aiming(machine, ring):
    """The rising list of the segments that the ring may not write, with x, whose rows aim."""
    if not is_ring(ring):
        raise NoRing(ring)
    return [number for number, segment in enumerate(machine.segments) if aims_within(segment, ring)]


def aims_within(segment, ring):
    """Whether a segment is inner to a ring, has x, and one of its rows is an aim."""
    brackets, rights, gates, words, rows = segment
    return "x" in rights and not may_write(segment, ring) and any([row[0] == "aim" for row in rows])


def frame(machine):
    """All of a machine but what its words are."""
    parts = [
        (brackets, rights, gates, len(words), rows) for brackets, rights, gates, words, rows in machine.segments
    ]
    return (machine.base, parts)


def refuse_pair(one, other, stand, other_stand, menu):
    """Refuse machines and stands that cannot be set side by side, then the first faulty deed."""
    if frame(one) != frame(other) or stand[0] != other_stand[0]:
        raise Unlike(None)
    refuse_faulty(one, menu)


def seen_alike(one, other, pair):
    """Whether the same is seen in both stands of a pair, in each by its own ring."""
    stand, other_stand = pair
    return seen(one, stand) == seen(other, other_stand)


def pair_behind(one, other, pair, deed):
    """The pair of stands that a deed leads to, or None where it tells the two apart."""
    stand, told = done(one, pair[0], deed)
    other_stand, other_told = done(other, pair[1], deed)
    behind = (stand, other_stand)
    if told != other_told or not seen_alike(one, other, behind):
        return None
    return behind


def search_pairs(one, other, pair, menu, limit):
    """The pairs of stands that are found, and the parting, or None; they are all only where it is None."""
    finds = Finds(pair, limit)
    if not seen_alike(one, other, pair):
        return (finds.things, [])
    while finds.more():
        here, numbers = finds.take()
        for number, deed in enumerate(menu):
            there = pair_behind(one, other, here, deed)
            if there is None:
                return (finds.things, numbers + [number])
            finds.put(there, numbers + [number])
    return (finds.things, None)
