"""Lots that are often used, and lots made of other ones."""

from everlater.errors import TooMany
from everlater.lots import MOST_MARKS, later_table


def lot_by(many, later):
    """Tell the lot of so many marks, the function later telling of two of them whether the one is later."""
    return (many, tuple([(x, y) for x in range(many) for y in range(many) if later(x, y)]))


def ring():
    """Tell the ring: three marks, each later than one and earlier than the other."""
    return (3, ((0, 2), (1, 0), (2, 1)))


def line(many):
    """Tell the lot of so many marks in which each is later than all lesser ones."""
    return lot_by(many, lambda x, y: x > y)


def squares(p):
    """Tell the lot of the marks below p in which x is later than y where x - y has the rest of a square by p."""
    rests = {number * number % p: True for number in range(1, p)}
    return lot_by(p, lambda x, y: (x - y) % p in rests)


def turned(lot):
    """Tell the lot with all its pairs turned about."""
    return (lot[0], tuple(sorted([(y, x) for x, y in lot[1]])))


def part(lot, marks):
    """Tell the lot of these marks, a rising tuple, numbered as they stand in it."""
    number = {mark: at for at, mark in enumerate(marks)}
    # The new numbers rise as the marks do, so the pairs rise still.
    return (len(marks), tuple([(number[x], number[y]) for x, y in lot[1] if x in number and y in number]))


def beside(lot, other):
    """Tell the lot of both, the other's marks numbered behind and each of them later than all of the lot's."""
    first = lot[0]
    many = first + other[0]
    if many > MOST_MARKS:
        raise TooMany(many)
    behind = [(x + first, y + first) for x, y in other[1]]
    between = [(x, y) for x in range(first, many) for y in range(first)]
    return (many, tuple(sorted(list(lot[1]) + behind + between)))


def within(lot, other):
    """Tell the lot of the marks a * many + b, a of the lot and b of the other, which has so many; a goes first."""
    size = other[0]
    many = lot[0] * size
    if many > MOST_MARKS:
        raise TooMany(many)
    outer = later_table(lot)
    inner = later_table(other)

    def later(x, y):
        a, b = divmod(x, size)
        c, d = divmod(y, size)
        return (a, c) in outer or (a == c and (b, d) in inner)

    return lot_by(many, later)
