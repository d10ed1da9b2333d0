"""Lots: marks, which of them is later than which, and the rows that they make.

A lot is (many, pairs): its marks are the numbers below many, and each pair
(x, y) tells that x is later than y.
"""

MOST_MARKS = 24


def is_whole(thing):
    """Tell whether the thing is a whole number; Python counts truths as such, here they are none."""
    return isinstance(thing, int) and not isinstance(thing, bool)


def is_below(many, thing):
    """Tell whether the thing is one of the whole numbers from 0 up to many, without many."""
    return is_whole(thing) and 0 <= thing < many


def is_pair(many, thing):
    """Tell whether the thing is a tuple of two unlike marks of so many."""
    if not isinstance(thing, tuple) or len(thing) != 2:
        return False
    x, y = thing
    return is_below(many, x) and is_below(many, y) and x != y


def are_rising(pairs):
    """Tell whether each of the pairs is greater than the one ahead of it."""
    return all([one < other for one, other in zip(pairs, pairs[1:])])


def are_one_way(pairs):
    """Tell whether no pair is there both ways round."""
    told = {pair: True for pair in pairs}
    return all([(y, x) not in told for x, y in pairs])


def is_lot(thing):
    """Tell whether the thing, whatever it is, is a lot."""
    if not isinstance(thing, tuple) or len(thing) != 2:
        return False
    many, pairs = thing
    if not is_below(MOST_MARKS + 1, many) or not isinstance(pairs, tuple):
        return False
    # The kinds come first: what is no pair of numbers can't be compared or looked up.
    if not all([is_pair(many, pair) for pair in pairs]):
        return False
    return are_rising(pairs) and are_one_way(pairs)


def is_later(lot, x, y):
    """Tell whether the mark x is later than the mark y."""
    return (x, y) in lot[1]


def is_over(lot, mark, marks):
    """Tell whether the mark is later than all of the marks."""
    return all([is_later(lot, mark, other) for other in marks])


def is_row(lot, thing):
    """Tell whether the thing, whatever it is, is a row of the lot."""
    if not isinstance(thing, tuple):
        return False
    for at, mark in enumerate(thing):
        if not is_below(lot[0], mark) or not is_over(lot, mark, thing[:at]):
            return False
    return True


def above(lot, marks):
    """Tell the marks that are later than all of these, rising."""
    return tuple([mark for mark in range(lot[0]) if is_over(lot, mark, marks)])


def in_order(lot, marks):
    """Tell the row that has just these marks, None where there is none."""
    unlike = sorted(set(marks))
    # A mark of a row is later than just those ahead of it: how many these are is its place.
    row = tuple(sorted(unlike, key=lambda mark: len([y for y in unlike if is_later(lot, mark, y)])))
    return row if is_row(lot, row) else None


def later_table(lot):
    """Tell the lot's pairs as a dict, to look up many of them without going through all each time."""
    return {pair: True for pair in lot[1]}


def still_above(table, high, mark):
    """Tell those of the marks in high that are later than this mark, too."""
    return tuple([x for x in high if (x, mark) in table])


def grown(table, found):
    """Tell the rows that become of those found, each with what is above it, by one mark more."""
    return [(row + (mark,), still_above(table, high, mark)) for row, high in found for mark in high]


def rows_with_above(lot, size):
    """Tell (row, above) of each row of just so many marks, rising.

    Rows that rise, grown by marks that rise, rise again: nothing is sorted.
    """
    table = later_table(lot)
    found = [((), tuple(range(lot[0])))]
    for step in range(size):
        found = grown(table, found)
    return found


def rows(lot, size):
    """Tell all rows of just so many marks, rising."""
    return tuple([row for row, high in rows_with_above(lot, size)])
