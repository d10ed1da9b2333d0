"""What boards, posts, caches and copies have in common: refusals, deeds, and the marks that are given in them."""

from everlater.errors import BadMany, BadTower, Empty, NoDeed, NoReach, NoSlot, NoValue
from everlater.lots import is_below, is_whole
from everlater.towergiving import given_on, judged_lots, reach_by
from everlater.towers import is_tower, order_in

MOST_SLOTS = 60


def check_tower(tower):
    """Refuse what is no tower."""
    if not is_tower(tower):
        raise BadTower(tower)


def check_many(many, least, most):
    """Refuse what is no whole number from the least to the most."""
    if not is_whole(many) or not least <= many <= most:
        raise BadMany(many)


def lots_that_reach(tower, many):
    """Tell the tower's judged lots; refused where the tower doesn't serve so many slots."""
    lots = judged_lots(tower)
    most = reach_by(lots)
    if many > most:
        raise NoReach(most)
    return lots


def lots_for(tower, many):
    """Tell the tower's judged lots, for so many slots, rows or places; refused what is wrong about both."""
    check_tower(tower)
    check_many(many, 1, MOST_SLOTS)
    return lots_that_reach(tower, many)


def check_slots(held, slots):
    """Refuse the first of the slots that is none of those that hold this."""
    for slot in slots:
        if not is_below(len(held), slot):
            raise NoSlot(slot)


def check_full(held, slot):
    """Refuse a slot that holds nothing."""
    if held[slot] is None:
        raise Empty(slot)


def check_value(value):
    """Refuse what is no whole number."""
    if not is_whole(value):
        raise NoValue(value)


def put_into(held, deeds, slot, thing):
    """Have the slot hold the thing; the deed remembers what it held ahead."""
    deeds.append((slot, held[slot]))
    held[slot] = thing


def take_over(held, deeds, slot, other):
    """Have the slot hold what the other one holds."""
    check_slots(held, (slot, other))
    check_full(held, other)
    put_into(held, deeds, slot, held[other])


def let_go(held, deeds, slot):
    """Have the slot hold nothing."""
    check_slots(held, (slot,))
    check_full(held, slot)
    put_into(held, deeds, slot, None)


def last_deed(deeds):
    """Take the last deed off the others, and tell it."""
    if not deeds:
        raise NoDeed()
    return deeds.pop()


def mark_behind(tower, lots, marks):
    """Tell the mark that is given behind the row of these marks, alike ones perhaps; it is known to be a kept one."""
    return given_on(lots, order_in(tower, marks))


def groups(held, things):
    """Tell for each of the things, in their order, the rising tuple of the slots that hold it."""
    return tuple([tuple([slot for slot, one in enumerate(held) if one == thing]) for thing in things])
