"""The desk: a machine and a hand at it, told what to do by rows of text."""

from ringgates.deeds import done, first, refuse_faulty
from ringgates.errors import NoDeed, NoRow, NoText
from ringgates.learning import aiming
from ringgates.machines import may_read, table
from ringgates.readings import is_number, read_deeds, read_machine
from ringgates.texts import NOTHING, show_pointer, show_word
from ringgates.traces import trace

FIRST_MACHINE = "2; 7.7.7 rw 0 [0] ()"
FIRST_RING = 7
MOST_FIGURES = 3
WAYS = "rwxc"
OK = "ok"


def listed(parts):
    """What an answer lists, with blanks, or the word for nothing."""
    return " ".join(parts) or "none"


def say_machine(desk, text):
    """Take another machine, and a first stand of it."""
    desk.machine = read_machine(text)
    return say_sit(desk, FIRST_RING)


def say_sit(desk, ring):
    """Take a first stand of this ring, with no deed to take back."""
    desk.stand = first(desk.machine, ring)
    desk.past = []
    return OK


def say_back(desk):
    """Take back the last deed."""
    if not desk.past:
        raise NoDeed(None)
    desk.stand = desk.past.pop()
    return OK


def say_do(desk, text):
    """Do deeds one by one; what each told is its cause, or that it is done."""
    deeds = read_deeds(text)
    # All of them ahead of the first deed, as a refusal is to change nothing.
    refuse_faulty(desk.machine, deeds)
    answers = []
    for deed in deeds:
        desk.past.append(desk.stand)
        desk.stand, told = done(desk.machine, desk.stand, deed)
        answers.append(told[-1])
    return listed(answers)


def say_show(desk):
    """What the hand holds."""
    ring, a, pointers, memory = desk.stand
    shown = [NOTHING if pointer is None else show_pointer(pointer) for pointer in pointers]
    return listed([str(a)] + shown)


def say_see(desk, number):
    """The words of a segment, if the hand's ring may read it."""
    ring, a, pointers, memory = desk.stand
    if not may_read(desk.machine.segment(number), ring):
        return "hidden"
    return listed([show_word(word) for word in memory[number]])


def say_touch(desk, text):
    """The touches of a deed that is not kept."""
    deeds = read_deeds(text)
    if len(deeds) != 1:
        raise NoText(text)
    steps, touches = trace(desk.machine, desk.stand, deeds[0])
    return listed([show_pointer(touch[:3]) + touch[3] for touch in touches])


def say_table(desk):
    """What each ring may do with each segment."""
    return "; ".join([" ".join([letters_of(ways) for ways in row]) for row in table(desk.machine)])


def letters_of(ways):
    """The letters of what may be done."""
    return "".join([letter for letter, may in zip(WAYS, ways) if may]) or NOTHING


def say_aims(desk):
    """The segments inner to the hand's ring, with x, whose rows aim."""
    return listed([str(number) for number in aiming(desk.machine, desk.stand[0])])


BARE_ROWS = {"back": say_back, "show": say_show, "table": say_table, "aims": say_aims}
NUMBER_ROWS = {"sit": say_sit, "see": say_see}
TEXT_ROWS = {"machine": say_machine, "do": say_do, "touch": say_touch}


class Desk:
    """A machine, the stand of the hand, and the stands ahead of the deeds that can be taken back."""

    def __init__(self):
        self.machine = read_machine(FIRST_MACHINE)
        self.stand = first(self.machine, FIRST_RING)
        self.past = []

    def say(self, row):
        """The answer to a row."""
        word, blank, rest = row.partition(" ")
        if row in BARE_ROWS:
            action = BARE_ROWS[row]
            return action(self)
        if blank and word in TEXT_ROWS:
            action = TEXT_ROWS[word]
            return action(self, rest)
        if word in NUMBER_ROWS and is_number(rest, MOST_FIGURES):
            action = NUMBER_ROWS[word]
            return action(self, int(rest))
        raise NoRow(row)
