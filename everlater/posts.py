"""Posts: letters that are under way one behind another, and slots that keep some of them.

A letter is (mark, place). Letters given one behind another share a mark as long as places are left,
so that a line of any length costs but two marks.
"""

from everlater.errors import BadLine, NoLetter, NotLive
from everlater.holding import (check_many, check_slots, check_tower, groups, last_deed, let_go, lots_that_reach,
                               mark_behind, put_into, take_over)
from everlater.lots import is_below, is_whole
from everlater.towers import is_mark, later_in, order_in

LONGEST_LINE = 10 ** 9
MOST_KEPT = 38
# The letters under way have two marks at the most: a new one's, and that of those ahead of it.
MARKS_UNDER_WAY = 2


class Post:
    """Letters under way, and slots that keep letters; of any two of these it tells which was given later."""

    def __init__(self, tower, line, many):
        check_tower(tower)
        if not is_whole(line) or not 1 <= line <= LONGEST_LINE:
            raise BadLine(line)
        check_many(many, 0, MOST_KEPT)
        self.lots = lots_that_reach(tower, many + MARKS_UNDER_WAY)
        self.tower = tower
        self.line = line
        self.given = []
        self.held = [None] * many
        # A deed is (slot, what it held ahead), and None where a letter was given.
        self.deeds = []

    def give(self):
        """Give a letter, and tell it."""
        letter = self.next_letter()
        self.given.append(letter)
        self.deeds.append(None)
        return letter

    def next_letter(self):
        """Tell the letter that give would give."""
        if self.given and self.given[-1][1] < self.line - 1:
            mark, place = self.given[-1]
            return (mark, place + 1)
        return (mark_behind(self.tower, self.lots, self.live_marks()), 0)

    def keep(self, slot, number):
        """Have the slot hold the letter of this number among those under way."""
        check_slots(self.held, (slot,))
        under_way = self.letters()
        if not is_below(len(under_way), number):
            raise NoLetter(number)
        put_into(self.held, self.deeds, slot, under_way[number])

    def take(self, slot, other):
        """Have the slot hold what the other one holds."""
        take_over(self.held, self.deeds, slot, other)

    def drop(self, slot):
        """Have the slot hold nothing."""
        let_go(self.held, self.deeds, slot)

    def back(self):
        """Take the last deed back."""
        deed = last_deed(self.deeds)
        if deed is None:
            self.given.pop()
        else:
            slot, ahead = deed
            self.held[slot] = ahead

    def letters(self):
        """Tell the letters under way, the earliest given first."""
        return tuple(self.given[-self.line:])

    def kept(self):
        """Tell what the slots hold, in order."""
        return tuple(self.held)

    def order(self):
        """Tell the groups of slots that hold alike letters, the earliest given first."""
        return groups(self.held, [letter for letter in self.live() if letter in self.held])

    def is_later(self, one, other):
        """Tell whether the one live letter was given later than the other."""
        live = self.all_live()
        for thing in (one, other):
            # The kinds come first: to Python a truth is like a number.
            if not self.is_letter(thing) or thing not in live:
                raise NotLive(thing)
        if one[0] == other[0]:
            return one[1] > other[1]
        return later_in(self.tower, one[0], other[0])

    def is_letter(self, thing):
        """Tell whether the thing, whatever it is, is a letter of this post, live or not."""
        if not isinstance(thing, tuple) or len(thing) != 2:
            return False
        return is_mark(self.tower, thing[0]) and is_below(self.line, thing[1])

    def live_marks(self):
        """Tell the marks of all live letters, alike ones perhaps."""
        return [letter[0] for letter in self.all_live()]

    def all_live(self):
        """Tell all live letters, in no order, alike ones perhaps."""
        return self.given[-self.line:] + [letter for letter in self.held if letter is not None]

    def live(self):
        """Tell all unlike live letters, the earliest given first."""
        place_of = {mark: at for at, mark in enumerate(order_in(self.tower, self.live_marks()))}
        unlike = sorted(set(self.all_live()))
        return tuple(sorted(unlike, key=lambda letter: (place_of[letter[0]], letter[1])))

    def __len__(self):
        return len(self.deeds)
