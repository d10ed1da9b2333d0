"""Boards: slots that hold marks of a tower, and tell by these alone in which order they were written."""

from everlater.errors import NotHeld
from everlater.holding import check_slots, groups, last_deed, let_go, lots_for, mark_behind, put_into, take_over
from everlater.towergiving import is_kept_on
from everlater.towers import has_marks_or_none, order_in


def marks_of(held):
    """Tell the marks among what is held, alike ones perhaps."""
    return [one for one in held if one is not None]


def can_be_held(tower, lots, many, thing):
    """Tell whether the thing, whatever it is, can be held by a board of so many slots, alike marks perhaps."""
    if not has_marks_or_none(tower, many, thing):
        return False
    row = order_in(tower, marks_of(thing))
    return row is not None and is_kept_on(lots, 0, row)


class Board:
    """Slots that hold marks; each mark that is written is later than all that the other slots hold."""

    def __init__(self, tower, many, *, held=None):
        lots = lots_for(tower, many)
        if held is not None and not can_be_held(tower, lots, many, held):
            raise NotHeld(held)
        self.tower = tower
        self.lots = lots
        self.held = [None] * many if held is None else list(held)
        self.deeds = []

    def write(self, slot):
        """Write the slot, and tell the mark that it holds now."""
        mark = self.next_mark(slot)
        put_into(self.held, self.deeds, slot, mark)
        return mark

    def take(self, slot, other):
        """Have the slot hold what the other one holds."""
        take_over(self.held, self.deeds, slot, other)

    def drop(self, slot):
        """Have the slot hold nothing."""
        let_go(self.held, self.deeds, slot)

    def back(self):
        """Take the last deed back."""
        slot, ahead = last_deed(self.deeds)
        self.held[slot] = ahead

    def marks(self):
        """Tell what the slots hold, in order."""
        return tuple(self.held)

    def order(self):
        """Tell the groups of slots that hold alike marks, the earliest written first."""
        return groups(self.held, order_in(self.tower, marks_of(self.held)))

    def oldest(self):
        """Tell the least slot that holds the earliest written mark, None where all hold nothing."""
        order = self.order()
        return order[0][0] if order else None

    def newest(self):
        """Tell the least slot that holds the latest written mark, None where all hold nothing."""
        order = self.order()
        return order[-1][0] if order else None

    def next_mark(self, slot):
        """Tell the mark that write would put into the slot."""
        check_slots(self.held, (slot,))
        others = self.held[:slot] + self.held[slot + 1:]
        return mark_behind(self.tower, self.lots, marks_of(others))

    def its_tower(self):
        """Tell the tower."""
        return self.tower

    def copied(self):
        """Tell a board alike, of its own, that has no deed to be taken back."""
        return Board(self.tower, len(self.held), held=tuple(self.held))

    def __len__(self):
        return len(marks_of(self.held))

    def __eq__(self, other):
        return isinstance(other, Board) and self.tower == other.tower and self.held == other.held
