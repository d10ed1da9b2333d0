"""Who gives: kept rows, the mark that keeps them, and the mark that holds out longest."""

from everlater.errors import NotKept
from everlater.judging import book, hope_by, judged, leavings
from everlater.lots import above, is_row

# A hope that has no end, to be compared with (0, hope) of one that has.
ENDLESS = (1, 0)


def parts(row):
    """Tell all parts of the row, itself and () too."""
    found = [()]
    for mark in row:
        found = found + [one + (mark,) for one in found]
    return found


def short_kept(lot, n):
    """Tell the kept rows of fewer than n marks, as a dict: the parts of the rows of the book."""
    return {one: True for row in book(lot, n) for one in parts(row)}


def is_kept_by(short, n, row):
    """Tell whether a row is kept, by those of fewer than n marks that are."""
    if len(row) < n:
        return row in short
    # Of n - 1 marks just the rows of the book are kept, so these need no list of their own.
    return len(row) == n and all([row[:at] + row[at + 1:] in short for at in range(n)])


def is_kept(lot, n, thing):
    """Tell whether the thing, whatever it is, is a kept row of the lot for n slots."""
    return is_row(lot, thing) and is_kept_by(short_kept(lot, n), n, thing)


def given(lot, n, short, row):
    """Tell the least mark by which a kept row of fewer than n marks is kept still; there always is one."""
    return [mark for mark in above(lot, row) if is_kept_by(short, n, row + (mark,))][0]


def give(lot, n, row):
    """Tell the least mark by which, put to its end, a kept row of fewer than n marks is a kept row."""
    if not is_row(lot, row) or len(row) >= n:
        raise NotKept(row)
    short = short_kept(lot, n)
    if row not in short:
        raise NotKept(row)
    return given(lot, n, short, row)


def worth(hope):
    """Tell the hope so that it can be compared: None counts for more than all numbers."""
    return ENDLESS if hope is None else (0, hope)


def left_by(lot, n, judgement, row, mark):
    """Tell what is left of a row by a mark later than all of it, so that it can be compared."""
    then = [row + (mark,)] if len(row) < n - 1 else leavings(row, mark)
    return min([worth(hope_by(lot, n, judgement, one)) for one in then], default=ENDLESS)


def hold(lot, n, row):
    """Tell the least mark later than all of the row by which most is left, None where no mark is."""
    high = above(lot, row)
    if not high:
        return None
    judgement = judged(lot, n)
    # Of several by which as much is left max tells the first, and these rise.
    return max(high, key=lambda mark: left_by(lot, n, judgement, row, mark))
