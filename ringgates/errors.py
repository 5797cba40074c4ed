"""The refusals: each keeps, as its field `what`, the value that is told with it."""


class RingError(ValueError):
    """What all refusals have in common."""

    def __init__(self, what):
        ValueError.__init__(self, f"refused: {what!r}")
        self.what = what


class NoMachine(RingError):
    """The segments or the base make no machine."""

    def __init__(self, what):
        RingError.__init__(self, what)


class NoSegment(RingError):
    """The machine has no segment of this number."""

    def __init__(self, what):
        RingError.__init__(self, what)


class NoDeed(RingError):
    """The deed names a pointer or a segment that there is not, or there is no deed."""

    def __init__(self, what):
        RingError.__init__(self, what)


class NoWish(RingError):
    """The wish names a segment or a place that there is not."""

    def __init__(self, what):
        RingError.__init__(self, what)


class NoRing(RingError):
    """The number is no ring."""

    def __init__(self, what):
        RingError.__init__(self, what)


class TooMany(RingError):
    """There is more than the limit lets by."""

    def __init__(self, what):
        RingError.__init__(self, what)


class Unlike(RingError):
    """The two machines or stands cannot be set side by side."""

    def __init__(self, what):
        RingError.__init__(self, what)


class NoText(RingError):
    """The text writes nothing that can be read."""

    def __init__(self, what):
        RingError.__init__(self, what)


class NoRow(RingError):
    """The text is no row that the desk knows."""

    def __init__(self, what):
        RingError.__init__(self, what)
