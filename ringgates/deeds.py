"""Stands, and the deeds that a hand does in them."""

from ringgates.errors import NoDeed, NoRing
from ringgates.forms import POINTERS, is_ring, row_fits
from ringgates.runs import Run, do_deed

MOST = 100


def first(machine, ring):
    """The stand of a hand in this ring that has done nothing yet: (ring, a, pointers, memory)."""
    if not is_ring(ring):
        raise NoRing(ring)
    memory = tuple([words for brackets, rights, gates, words, rows in machine.segments])
    return (ring, 0, (None,) * POINTERS, memory)


def refuse_faulty(machine, deeds):
    """Refuse the first of the deeds that is faulty."""
    for deed in deeds:
        if not row_fits(deed, len(machine)):
            raise NoDeed(deed)


def done(machine, stand, deed, *, most=MOST):
    """The stand behind a deed, and what is told: ("done",) or ("fault", cause)."""
    refuse_faulty(machine, [deed])
    run = Run(machine, stand)
    told = do_deed(run, deed, most)
    return (run.stand_now(), told)
