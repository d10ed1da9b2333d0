"""Lots led into other ones, and how many slots so many marks can serve at the most."""

from everlater.lots import is_below, later_table


def is_leading(lot, other, thing):
    """Tell whether the thing, whatever it is, leads the lot into the other one."""
    if not isinstance(thing, tuple) or len(thing) != lot[0]:
        return False
    if not all([is_below(other[0], mark) for mark in thing]):
        return False
    table = later_table(other)
    return all([(thing[x], thing[y]) in table for x, y in lot[1]])


def ceiling(many):
    """Tell the greatest n for which 2 ** n - 1 is no more than many."""
    # A number has n + 1 binary figures just where it is 2 ** n or more, and less than twice that.
    return (many + 1).bit_length() - 1
