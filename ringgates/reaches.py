"""What a hand can come to by the deeds of a menu: stands, ways to wishes, and papers that there are none."""

from ringgates.deeds import done, refuse_faulty
from ringgates.errors import NoWish
from ringgates.finds import Finds
from ringgates.forms import is_below

LIMIT = 400


def stands(machine, stand, menu, *, limit=LIMIT):
    """The stands that can be come to, in the order in which they are found."""
    refuse_faulty(machine, menu)
    found, numbers = search(machine, stand, menu, None, limit)
    return found


def way(machine, stand, menu, wish, *, limit=LIMIT):
    """The least shortest row of numbers of deeds to a stand in which the wish holds, or None."""
    refuse_faulty(machine, menu)
    refuse_wish(machine, wish)
    found, numbers = search(machine, stand, menu, wish, limit)
    return numbers


def paper(machine, stand, menu, wish, *, limit=LIMIT):
    """The stands that can be come to, where the wish holds in none of them, else None."""
    refuse_faulty(machine, menu)
    refuse_wish(machine, wish)
    found, numbers = search(machine, stand, menu, wish, limit)
    return found if numbers is None else None


def paper_holds(machine, stand, menu, wish, paper):
    """Whether a paper shows that no row of deeds leads to the wish."""
    refuse_faulty(machine, menu)
    refuse_wish(machine, wish)
    listed = {each: True for each in paper}
    if stand not in listed:
        return False
    for each in listed:
        if wish_holds(wish, each):
            return False
        if not all([done(machine, each, deed)[0] in listed for deed in menu]):
            return False
    return True


def refuse_wish(machine, wish):
    """Refuse a wish for a word that there is not."""
    number, place, word = wish
    if not is_below(number, len(machine)) or not is_below(place, len(machine.segment(number)[3])):
        raise NoWish(wish)


def wish_holds(wish, stand):
    """Whether the word of a wish stands where it is wished."""
    number, place, word = wish
    return stand[3][number][place] == word


def search(machine, stand, menu, wish, limit):
    """The stands that are found, and the way to the wish, or None; they are all only where it is None.

    The wish is None where there is none.
    """
    finds = Finds(stand, limit)
    if wish is not None and wish_holds(wish, stand):
        return (finds.things, [])
    while finds.more():
        here, numbers = finds.take()
        for number, deed in enumerate(menu):
            there, told = done(machine, here, deed)
            finds.put(there, numbers + [number])
            if wish is not None and wish_holds(wish, there):
                return (finds.things, numbers + [number])
    return (finds.things, None)
