"""Texts read back as machines and deeds; what no machine and no list of deeds is written as is refused.

The parts below refuse a text with NoText for what of it they cannot read; the whole is refused as a whole.
"""

from ringgates.errors import NoMachine, NoText
from ringgates.forms import ROW_FORMS
from ringgates.machines import Machine
from ringgates.texts import NOTHING

FIGURES = "0123456789"
MOST_FIGURES = 60


def read_machine(text):
    """The machine that a text writes."""
    parts = text.split("; ")
    try:
        segments = [segment_of(part) for part in parts[1:]]
        return Machine(segments, base=number_of(parts[0]))
    except (NoMachine, NoText):
        raise NoText(text) from None


def read_deeds(text):
    """The list of deeds that a text writes; whether some machine has what they name is not asked."""
    if text == NOTHING:
        return []
    try:
        return [row_of(part) for part in text.split(", ")]
    except NoText:
        raise NoText(text) from None


def is_number(text, most):
    """Whether a text is a number, not below 0, of no more than so many figures, without a 0 ahead of others."""
    if not 1 <= len(text) <= most or not all([sign in FIGURES for sign in text]):
        return False
    return text == "0" or text[0] != "0"


def number_of(text):
    """The whole number that a text writes."""
    if text == "-0" or not is_number(text.removeprefix("-"), MOST_FIGURES):
        raise NoText(text)
    return int(text)


def segment_of(text):
    """The segment that a part of a machine's text writes."""
    parts = text.split(" ", 3)
    if len(parts) != 4:
        raise NoText(text)
    brackets, rights, gates, inside = parts
    words, between, rows = inside[1:-1].partition("] (")
    if not between or inside[0] != "[" or inside[-1] != ")":
        raise NoText(text)
    return (brackets_of(brackets), rights_of(rights), number_of(gates), words_of(words), rows_of(rows))


def brackets_of(text):
    """The rings of brackets; whether they are brackets is left to the machine."""
    return tuple([number_of(part) for part in text.split(".")])


def rights_of(text):
    """The rights that a text writes; whether they are rights is left to the machine."""
    # A machine may have none, but they are not written as an empty text.
    if not text:
        raise NoText(text)
    return "" if text == NOTHING else text


def words_of(text):
    """The words between square brackets."""
    return tuple([word_of(part) for part in text.split(" ")]) if text else ()


def word_of(text):
    """The number or the pointer that a text writes."""
    numbers = [number_of(part) for part in text.split(":")]
    if len(numbers) == 1:
        return ("num", numbers[0])
    if len(numbers) != 3:
        raise NoText(text)
    return ("ptr",) + tuple(numbers)


def rows_of(text):
    """The rows between round brackets."""
    return tuple([row_of(part) for part in text.split(", ")]) if text else ()


def row_of(text):
    """The row, or the deed, that a text writes."""
    parts = text.split(" ")
    letters = ROW_FORMS.get(parts[0])
    if letters is None or len(parts) != len(letters) + 1:
        raise NoText(text)
    return (parts[0],) + tuple([number_of(part) for part in parts[1:]])
