"""A deed while it is done: what each row does, and the faults that end it."""

from ringgates.forms import POINTERS
from ringgates.machines import may_read, may_write

DEEPEST = 8


class Fault(Exception):
    """A deed is over by a fault of this cause."""

    def __init__(self, cause):
        Exception.__init__(self, cause)
        self.cause = cause


class Run:
    """What changes while a deed is done in a stand.

    `where` is None while the hand is at it, else the (segment, row) that is next; `calls` has, for each
    call that is not returned from yet, the ring that ran and the `where` that it goes back to. `steps`
    and `touches` have the rows that were done and the words that were read and written so far.
    """

    def __init__(self, machine, stand):
        ring, a, pointers, memory = stand
        self.machine = machine
        self.hand = ring
        self.ring = ring
        self.a = a
        self.pointers = list(pointers)
        self.memory = [list(words) for words in memory]
        self.where = None
        self.calls = []
        self.steps = []
        self.touches = []

    def stand_now(self):
        """The stand that the hand is in, as things are now."""
        memory = tuple([tuple(words) for words in self.memory])
        return (self.hand, self.a, tuple(self.pointers), memory)

    def forget(self):
        """What a fault takes from the hand."""
        self.a = 0
        self.pointers = [None] * POINTERS

    def pointer(self, p):
        """The pointer of this number, if there is one."""
        if self.pointers[p] is None:
            raise Fault("pointer")
        return self.pointers[p]

    def spot(self, p, w):
        """The ring e, and the segment and place of the word w places behind pointer p."""
        ring, number, place = self.pointer(p)
        if not 0 <= place + w < len(self.memory[number]):
            raise Fault("bounds")
        return (max(self.ring, ring), number, place + w)

    def read(self, p, w):
        """The word w places behind pointer p, with the ring e and the segment it was read in."""
        e, number, place = self.spot(p, w)
        if not may_read(self.machine.segment(number), e):
            raise Fault("read")
        self.touches.append((e, number, place, "r"))
        return (self.memory[number][place], e, number)

    def write(self, p, w, word):
        """Put the word w places behind pointer p."""
        e, number, place = self.spot(p, w)
        if not may_write(self.machine.segment(number), e):
            raise Fault("write")
        self.touches.append((e, number, place, "w"))
        self.memory[number][place] = word

    def jump(self, j):
        """Let row j of the segment that runs be next."""
        number, place = self.where
        self.where = (number, j)

    def enter(self, ring, where):
        """Go on there in this ring, which no pointer's may be less than."""
        self.ring = ring
        self.where = where
        self.pointers = [raised(pointer, ring) for pointer in self.pointers]

    def next_row(self):
        """The row that is next, if there is one."""
        number, place = self.where
        rows = self.machine.segment(number)[4]
        if not 0 <= place < len(rows):
            raise Fault("row")
        return rows[place]

    def not_the_hand(self):
        """Refuse to the hand what only rows can do."""
        if self.where is None:
            raise Fault("hand")


def raised(pointer, ring):
    """The pointer, its ring at least this one."""
    if pointer is None:
        return None
    own, number, place = pointer
    return (max(own, ring), number, place)


def entered(segment, place, e):
    """The ring that a call in e leads to, at a place of a segment."""
    (r1, r2, r3), rights, gates, words, rows = segment
    if "x" not in rights:
        raise Fault("run")
    if not 0 <= place < len(rows):
        raise Fault("entry")
    if e <= r2:
        return max(e, r1)
    if e > r3:
        raise Fault("call")
    if place >= gates:
        raise Fault("gate")
    return r2


def do_set(run, n):
    """a becomes n's rest."""
    run.a = n % run.machine.base


def do_add(run, n):
    """a becomes the rest of a and n together."""
    run.a = (run.a + n) % run.machine.base


def do_load(run, p, w):
    """a becomes the number that pointer p leads to."""
    word, e, number = run.read(p, w)
    if word[0] != "num":
        raise Fault("kind")
    run.a = word[1]


def do_store(run, p, w):
    """The word that pointer p leads to becomes a."""
    run.write(p, w, ("num", run.a))


def do_fetch(run, q, p, w):
    """Pointer q becomes the one that pointer p leads to."""
    word, e, number = run.read(p, w)
    if word[0] != "ptr":
        raise Fault("kind")
    kind, ring, target, place = word
    # Whoever may write the segment, up to its r1, may have put the pointer there.
    r1 = run.machine.segment(number)[0][0]
    run.pointers[q] = (max(ring, e, r1), target, place)


def do_keep(run, q, p, w):
    """The word that pointer p leads to becomes pointer q."""
    run.write(p, w, ("ptr",) + run.pointer(q))


def do_aim(run, q, s, w):
    """Pointer q becomes one of the ring that runs."""
    if w < 0:
        raise Fault("bounds")
    run.pointers[q] = (run.ring, s, w)


def do_move(run, q, p, n):
    """Pointer q becomes pointer p, n places farther."""
    ring, number, place = run.pointer(p)
    if place + n < 0:
        raise Fault("bounds")
    run.pointers[q] = (ring, number, place + n)


def do_zero(run, j):
    """Row j is next where a is 0."""
    run.not_the_hand()
    if run.a == 0:
        run.jump(j)


def do_go(run, j):
    """Row j is next."""
    run.not_the_hand()
    run.jump(j)


def do_call(run, p):
    """The rows that pointer p leads to run on, in the ring that they are entered in."""
    ring, number, place = run.pointer(p)
    new_ring = entered(run.machine.segment(number), place, max(run.ring, ring))
    if len(run.calls) >= DEEPEST:
        raise Fault("deep")
    run.calls.append((run.ring, run.where))
    run.enter(new_ring, (number, place))


def do_return(run):
    """Go back to where the last call came from."""
    run.not_the_hand()
    ring, where = run.calls.pop()
    run.enter(ring, where)


ACTIONS = {
    "set": do_set,
    "add": do_add,
    "load": do_load,
    "store": do_store,
    "fetch": do_fetch,
    "keep": do_keep,
    "aim": do_aim,
    "move": do_move,
    "zero": do_zero,
    "go": do_go,
    "call": do_call,
    "return": do_return,
}


def act(run, row):
    """Do one row, or the hand's own deed."""
    action = ACTIONS[row[0]]
    numbers = row[1:]
    action(run, *numbers)


def act_on(run, most):
    """Do rows until the hand is come back to."""
    ran = 0
    while run.where is not None:
        row = run.next_row()
        # Only behind next_row: "row" goes ahead of "long".
        if ran >= most:
            raise Fault("long")
        ran += 1
        number, place = run.where
        run.steps.append((run.ring, number, place, len(run.calls)))
        # Ahead of the row, which may tell another one, or keep this one in a call.
        run.where = (number, place + 1)
        act(run, row)


def do_deed(run, deed, most):
    """Do a deed to its end; what is told of it."""
    try:
        act(run, deed)
        act_on(run, most)
    except Fault as fault:
        run.forget()
        return ("fault", fault.cause)
    return ("done",)
