"""The steps and touches of a deed, rows of deeds, and whether a trace keeps the brackets."""

from ringgates.deeds import MOST, done, refuse_faulty
from ringgates.forms import RINGS, is_below, is_ring
from ringgates.machines import may_read, may_run, may_write
from ringgates.runs import Fault, Run, do_deed, entered


def trace(machine, stand, deed, *, most=MOST):
    """The steps (ring, segment, place, calls) and the touches (ring, segment, place, way) of a deed."""
    refuse_faulty(machine, [deed])
    run = Run(machine, stand)
    do_deed(run, deed, most)
    return (run.steps, run.touches)


def done_all(machine, stand, deeds, *, most=MOST):
    """The stand behind a row of deeds, and the list of what each of them told."""
    refuse_faulty(machine, deeds)
    all_told = []
    for deed in deeds:
        stand, told = done(machine, stand, deed, most=most)
        all_told.append(told)
    return (stand, all_told)


def keeps(machine, ring, steps, touches):
    """Whether the steps and touches keep the brackets, where the hand sits in this ring."""
    if not all([touch_fits(machine, touch) for touch in touches]):
        return False
    # What follows asks for the rows of the steps, so that each must be one of a row first.
    if not all([step_fits(machine, step) for step in steps]):
        return False
    return begins_well(machine, ring, steps) and goes_on_well(machine, steps)


def touch_fits(machine, touch):
    """Whether there is the word of a touch, and the touch's ring may do so."""
    ring, number, place, way = touch
    if not is_ring(ring) or not is_below(number, len(machine)):
        return False
    segment = machine.segment(number)
    if not is_below(place, len(segment[3])):
        return False
    return may_read(segment, ring) if way == "r" else may_write(segment, ring)


def step_fits(machine, step):
    """Whether there is the row of a step, and the step's ring runs it."""
    ring, number, place, calls = step
    if not is_below(number, len(machine)):
        return False
    segment = machine.segment(number)
    return is_below(place, len(segment[4])) and may_run(segment, ring)


def begins_well(machine, ring, steps):
    """Whether the first step, if there is one, is what a call of the hand leads to."""
    if not steps:
        return True
    return steps[0][3] == 1 and is_entered(machine, steps[0], ring)


def goes_on_well(machine, steps):
    """Whether each step but the first may come behind the one ahead of it."""
    last = {}
    for step, behind in zip(steps, steps[1:]):
        last[step[3]] = step
        if not follows(machine, step, behind, last):
            return False
    return True


def follows(machine, step, behind, last):
    """Whether one step may come straight behind another; last has the last one so far of each number of calls."""
    ring, number, place, calls = step
    word = machine.segment(number)[4][place][0]
    if behind[3] == calls:
        return behind[:2] == (ring, number) and word not in ("call", "return")
    if behind[3] == calls + 1:
        return word == "call" and is_entered(machine, behind, ring)
    if behind[3] == calls - 1:
        return word == "return" and is_come_back_to(behind, last.get(calls - 1))
    return False


def is_entered(machine, step, from_ring):
    """Whether some call from a ring leads to the row and the ring of a step."""
    ring, number, place, calls = step
    segment = machine.segment(number)
    # The pointer of the call may bear any ring, so that e may be any from the caller's ring on.
    return any([ring_led_to(segment, place, e) == ring for e in range(from_ring, RINGS)])


def ring_led_to(segment, place, e):
    """The ring that a call in e leads to, or None where it is a fault."""
    try:
        return entered(segment, place, e)
    except Fault:
        return None


def is_come_back_to(step, call):
    """Whether a return from what was called by the step `call`, if there is one, leads to this step."""
    if call is None:
        return False
    ring, number, place, calls = call
    return step[:3] == (ring, number, place + 1)
