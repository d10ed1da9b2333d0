"""A cache that lets the row go that was touched longest ago, and has nothing but marks to go by."""

from everlater.errors import NoKey
from everlater.holding import check_value, last_deed, lots_for, mark_behind
from everlater.towers import order_in

LETTERS = "abcdefghijklmnopqrstuvwxyz"
LONGEST_KEY = 8


def check_key(key):
    """Refuse what is no text of one to eight letters from a to z."""
    if not isinstance(key, str) or not 1 <= len(key) <= LONGEST_KEY:
        raise NoKey(key)
    if not all([letter in LETTERS for letter in key]):
        raise NoKey(key)


class Cache:
    """At most so many rows, each of a key, a value and the mark of its last touch."""

    def __init__(self, tower, many):
        self.lots = lots_for(tower, many)
        self.tower = tower
        self.many = many
        # Of each key (value, mark).
        self.rows = {}
        # A deed remembers all rows as they were ahead of it.
        self.deeds = []

    def put(self, key, value):
        """Put the value under the key, and tell the key that went for it, None where none did."""
        check_key(key)
        check_value(value)
        self.deeds.append(dict(self.rows))
        gone = None
        if key not in self.rows and len(self.rows) == self.many:
            gone = self.by_touch()[0]
            del self.rows[gone]
        self.touch(key, value)
        return gone

    def touch(self, key, value):
        """Give the key a row with this value and a mark later than those of all other rows."""
        others = [self.rows[one][1] for one in self.rows if one != key]
        self.rows[key] = (value, mark_behind(self.tower, self.lots, others))

    def ask(self, key):
        """Tell the value of the key, whose row is touched; None where it has no row."""
        value = self.look(key)
        if value is not None:
            self.deeds.append(dict(self.rows))
            self.touch(key, value)
        return value

    def look(self, key):
        """Tell the value of the key, whose row isn't touched; None where it has no row."""
        check_key(key)
        return self.rows[key][0] if key in self.rows else None

    def by_touch(self):
        """Tell the keys, the earliest touched first."""
        key_of = {self.rows[key][1]: key for key in self.rows}
        return tuple([key_of[mark] for mark in self.marks()])

    def marks(self):
        """Tell the marks of the rows, the earliest touched first."""
        return order_in(self.tower, [self.rows[key][1] for key in self.rows])

    def back(self):
        """Take the last deed back."""
        self.rows = last_deed(self.deeds)

    def __len__(self):
        return len(self.rows)
