"""How machines and deeds are written: each in one way alone."""

NOTHING = "-"


def show_machine(machine):
    """The text that writes a machine."""
    return "; ".join([str(machine.base)] + [show_segment(segment) for segment in machine.segments])


def show_deeds(deeds):
    """The text that writes a list of deeds."""
    return show_rows(deeds) or NOTHING


def show_segment(segment):
    """A segment as a part of its machine's text."""
    (r1, r2, r3), rights, gates, words, rows = segment
    return f"{r1}.{r2}.{r3} {rights or NOTHING} {gates} [{show_words(words)}] ({show_rows(rows)})"


def show_words(words):
    """Words with single blanks between."""
    return " ".join([show_word(word) for word in words])


def show_word(word):
    """A number in figures, or a pointer."""
    return str(word[1]) if word[0] == "num" else show_pointer(word[1:])


def show_pointer(pointer):
    """A pointer (ring, segment, place)."""
    ring, number, place = pointer
    return f"{ring}:{number}:{place}"


def show_rows(rows):
    """Rows, or deeds, with a comma and a blank between."""
    return ", ".join([show_row(row) for row in rows])


def show_row(row):
    """The word of a row and its numbers, with single blanks between."""
    return " ".join([str(part) for part in row])
