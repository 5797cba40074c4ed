"""What numbers, words, rows and segments must be like for a machine to be one."""

RINGS = 8
POINTERS = 4
MOST_SEGMENTS = 8
MOST_WORDS = 16
MOST_ROWS = 24
LEAST_BASE = 2

RIGHTS = ("", "r", "w", "x", "rw", "rx", "wx", "rwx")

# A letter for each number behind the word of a row: p is a pointer's, s a segment's, n any.
ROW_FORMS = {
    "set": "n",
    "add": "n",
    "load": "pn",
    "store": "pn",
    "fetch": "ppn",
    "keep": "ppn",
    "aim": "psn",
    "move": "ppn",
    "zero": "n",
    "go": "n",
    "call": "p",
    "return": "",
}


def is_whole(number):
    """Whether it is a whole number: Python counts True and False as int, the document does not."""
    return isinstance(number, int) and not isinstance(number, bool)


def is_below(number, bound):
    """Whether it is a whole number from 0 to below the bound."""
    return is_whole(number) and 0 <= number < bound


def is_ring(number):
    """Whether it is the number of a ring."""
    return is_below(number, RINGS)


def number_fits(letter, number, many):
    """Whether a number may stand in a row where ROW_FORMS has this letter."""
    if letter == "p":
        return is_below(number, POINTERS)
    if letter == "s":
        return is_below(number, many)
    return is_whole(number)


def row_fits(row, many):
    """Whether a row, or a deed, is not faulty in a machine of so many segments."""
    letters = ROW_FORMS.get(row[0])
    if letters is None or len(row) != len(letters) + 1:
        return False
    return all([number_fits(letter, number, many) for letter, number in zip(letters, row[1:])])


def word_fits(word, base, many):
    """Whether a word may stand in a machine of this base and so many segments."""
    if word[0] == "num":
        return is_below(word[1], base)
    ring, segment, place = word[1:]
    return is_ring(ring) and is_below(segment, many) and is_whole(place) and place >= 0


def brackets_fit(brackets):
    """Whether these are three rings, none less than the one ahead."""
    if not isinstance(brackets, tuple) or len(brackets) != 3:
        return False
    if not all([is_ring(ring) for ring in brackets]):
        return False
    r1, r2, r3 = brackets
    return r1 <= r2 <= r3


def segment_fits(segment, base, many):
    """Whether a segment is not faulty in a machine of this base and so many segments."""
    brackets, rights, gates, words, rows = segment
    if not brackets_fit(brackets) or rights not in RIGHTS or not is_below(gates, len(rows) + 1):
        return False
    if len(words) > MOST_WORDS or len(rows) > MOST_ROWS:
        return False
    if not all([word_fits(word, base, many) for word in words]):
        return False
    return all([row_fits(row, many) for row in rows])
