"""Towers: lots within lots, the outermost first; a mark has a mark of each, and the first unlike ones tell."""

from everlater.judging import reach
from everlater.lots import in_order, is_below, is_later, is_lot

MOST_LOTS = 40


def is_tower(thing):
    """Tell whether the thing, whatever it is, is a tower."""
    if not isinstance(thing, tuple) or not 1 <= len(thing) <= MOST_LOTS:
        return False
    return all([is_lot(lot) and lot[0] > 0 for lot in thing])


def is_mark(tower, thing):
    """Tell whether the thing, whatever it is, is a mark of the tower."""
    if not isinstance(thing, tuple) or len(thing) != len(tower):
        return False
    return all([is_below(lot[0], one) for lot, one in zip(tower, thing)])


def has_marks_or_none(tower, many, thing):
    """Tell whether the thing, whatever it is, is a tuple of so many marks of the tower or Nones."""
    if not isinstance(thing, tuple) or len(thing) != many:
        return False
    return all([one is None or is_mark(tower, one) for one in thing])


def later_in(tower, x, y):
    """Tell whether the mark x is later than the mark y."""
    for lot, one, other in zip(tower, x, y):
        if one != other:
            return is_later(lot, one, other)
    return False


def is_over_in(tower, mark, marks):
    """Tell whether the mark is later than all of the marks."""
    return all([later_in(tower, mark, other) for other in marks])


def is_row_in(tower, thing):
    """Tell whether the thing, whatever it is, is a row of the tower."""
    if not isinstance(thing, tuple):
        return False
    for at, mark in enumerate(thing):
        if not is_mark(tower, mark) or not is_over_in(tower, mark, thing[:at]):
            return False
    return True


def blocks(marks, at):
    """Tell, as a dict, the marks that have the same one at this place, for each such one as they come."""
    found = {}
    for mark in marks:
        if mark[at] not in found:
            found[mark[at]] = []
        found[mark[at]].append(mark)
    return found


def ordered(tower, at, marks):
    """Tell the row of these unlike marks, which are alike ahead of this place; None where there is none."""
    if len(marks) < 2:
        return tuple(marks)
    found = blocks(marks, at)
    outer = in_order(tower[at], tuple(found))
    if outer is None:
        return None
    # Where the outer marks differ they alone tell, so each block stands together.
    rows = [ordered(tower, at + 1, found[one]) for one in outer]
    return None if None in rows else tuple([mark for row in rows for mark in row])


def order_in(tower, marks):
    """Tell the row that has just these marks, None where there is none."""
    return ordered(tower, 0, sorted(set(marks)))


def many_in(tower):
    """Tell how many marks the tower has."""
    many = 1
    for lot in tower:
        many *= lot[0]
    return many


def reaches(tower):
    """Tell the reach of each of the tower's lots, as a list."""
    # A high tower often has the same lot again and again: each is judged once.
    known = {lot: reach(lot) for lot in sorted(set(tower))}
    return [known[lot] for lot in tower]


def reach_in(tower):
    """Tell the tower's reach: 1, and for each of its lots its reach less 1."""
    return 1 + sum([most - 1 for most in reaches(tower)])
