"""Who attacks: which slot is to be written next, so that whoever gives must fail."""

from everlater.errors import NotHeld, Serves
from everlater.judging import judged
from everlater.lots import in_order, is_below

MOST_SLOTS = 5


def is_held(lot, thing):
    """Tell whether the thing, whatever it is, can be held by one to five slots, unlike marks in all of them."""
    if not isinstance(thing, tuple) or not 1 <= len(thing) <= MOST_SLOTS:
        return False
    if not all([one is None or is_below(lot[0], one) for one in thing]):
        return False
    marks = tuple([one for one in thing if one is not None])
    row = in_order(lot, marks)
    return row is not None and len(row) == len(marks)


def weakest(lot, held, gone):
    """Tell the slot, all being full, without which the marks make the row that goes in the earliest round."""
    row = in_order(lot, held)
    others = [tuple([mark for mark in row if mark != left_out]) for left_out in held]
    return min(list(range(len(held))), key=lambda slot: gone[others[slot]])


def attack(lot, held):
    """Tell the slot that is to be written next: asked ahead of each writing, it makes whoever gives fail."""
    if not is_held(lot, held):
        raise NotHeld(held)
    gone, staying = judged(lot, len(held))
    if staying:
        raise Serves()
    # A slot that holds nothing costs who gives the most: one mark more that all further ones must be later than.
    return held.index(None) if None in held else weakest(lot, held, gone)
