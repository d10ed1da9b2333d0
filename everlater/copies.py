"""Copies of a value in several places, of which the latest written one is told by marks alone."""

from everlater.holding import (check_full, check_slots, check_value, last_deed, let_go, lots_for, mark_behind,
                               put_into)
from everlater.towers import later_in, order_in


class Copies:
    """Places that hold a value and a mark, or nothing."""

    def __init__(self, tower, many):
        self.lots = lots_for(tower, many)
        self.tower = tower
        # Of each place None or (value, mark).
        self.held = [None] * many
        self.deeds = []

    def write(self, place, value):
        """Write the value at the place, and tell the mark that it holds now."""
        check_slots(self.held, (place,))
        check_value(value)
        others = self.held[:place] + self.held[place + 1:]
        mark = mark_behind(self.tower, self.lots, [one[1] for one in others if one is not None])
        put_into(self.held, self.deeds, place, (value, mark))
        return mark

    def spread(self, place, other):
        """Have the place hold what the other one holds, if that is later; tell whether it changed."""
        check_slots(self.held, (place, other))
        check_full(self.held, other)
        here = self.held[place]
        there = self.held[other]
        changed = here is None or later_in(self.tower, there[1], here[1])
        put_into(self.held, self.deeds, place, there if changed else here)
        return changed

    def lose(self, place):
        """Have the place hold nothing."""
        let_go(self.held, self.deeds, place)

    def back(self):
        """Take the last deed back."""
        place, ahead = last_deed(self.deeds)
        self.held[place] = ahead

    def latest(self):
        """Tell (value, mark) of the latest written mark, None where nothing is held."""
        full = [one for one in self.held if one is not None]
        if not full:
            return None
        mark = order_in(self.tower, [one[1] for one in full])[-1]
        return [one for one in full if one[1] == mark][0]

    def read(self):
        """Tell the value of the latest written mark, None where nothing is held."""
        last = self.latest()
        return None if last is None else last[0]

    def at(self, place):
        """Tell (value, mark) of the place, None where it holds nothing."""
        check_slots(self.held, (place,))
        return self.held[place]

    def stale(self):
        """Tell the places that hold an earlier one than the latest, rising."""
        last = self.latest()
        return tuple([place for place, one in enumerate(self.held) if one is not None and one[1] != last[1]])

    def agree(self):
        """Tell whether all places that hold something hold alike marks."""
        return self.stale() == ()
