"""What is found one from another, in order, and by which ways."""

from ringgates.errors import TooMany


class Finds:
    """Things in the order in which they are found, each with the way to it: a list of numbers of deeds.

    Where they are taken up in this order, and for each the deeds in the order of the menu, each thing is
    found first by a shortest way to it, and by the least of these.
    """

    def __init__(self, start, limit):
        self.limit = limit
        self.things = [start]
        self.ways = {start: []}
        self.taken = 0

    def more(self):
        """Whether there is a thing that was not taken up yet."""
        return self.taken < len(self.things)

    def take(self):
        """The next thing that was not taken up yet, and the way to it."""
        thing = self.things[self.taken]
        self.taken += 1
        return (thing, self.ways[thing])

    def put(self, thing, way):
        """Put down a thing, if it is a new one; refused where there is no room for it."""
        if thing in self.ways:
            return
        if len(self.things) >= self.limit:
            raise TooMany(self.limit)
        self.things.append(thing)
        self.ways[thing] = way
