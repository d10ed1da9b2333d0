"""Who gives marks of a tower and never fails, in as many slots as the tower's reach tells.

A lot is told here as (lot, reach, short): short has the kept rows of fewer marks than the reach.
"""

from everlater.errors import NotKept
from everlater.giving import given, is_kept_by, short_kept
from everlater.judging import reach
from everlater.towers import blocks, is_row_in, many_in


def judged_lot(lot):
    """Tell the lot with its reach and the short kept rows for that."""
    most = reach(lot)
    return (lot, most, short_kept(lot, most))


def judged_lots(tower):
    """Tell the tower's lots, each with its reach and the short kept rows for that."""
    # A high tower often has the same lot again and again: each is judged once.
    known = {lot: judged_lot(lot) for lot in sorted(set(tower))}
    return [known[lot] for lot in tower]


def reach_by(lots):
    """Tell the reach of the tower of these judged lots."""
    return 1 + sum([most - 1 for lot, most, short in lots])


def is_kept_on(lots, at, row):
    """Tell whether the marks of a row, alike ahead of this place, have kept rests from there on."""
    lot, most, short = lots[at]
    found = blocks(row, at)
    if not is_kept_by(short, most, tuple(found)):
        return False
    return at == len(lots) - 1 or all([is_kept_on(lots, at + 1, found[outer]) for outer in found])


def is_kept_in(tower, thing):
    """Tell whether the thing, whatever it is, is a kept row of the tower."""
    return is_row_in(tower, thing) and is_kept_on(judged_lots(tower), 0, thing)


def given_on(lots, row):
    """Tell the mark to be given behind a kept row that has fewer marks than the reach, lot by lot."""
    told = ()
    block = row
    room = reach_by(lots)
    for at, (lot, most, short) in enumerate(lots):
        found = blocks(block, at)
        outer = tuple(found)
        # Now it is the reach of the lots behind; behind the last one it is 1, and a block has a mark: never room.
        room -= most - 1
        if outer and len(found[outer[-1]]) < room:
            told += (outer[-1],)
            block = found[outer[-1]]
        else:
            told += (given(lot, most, short, outer),)
            block = ()
    return told


def give_in(tower, row):
    """Tell the mark that is given behind a kept row of fewer marks than the tower's reach."""
    # Where there are no marks, as no tower has it, there would be none to tell.
    if not is_row_in(tower, row) or many_in(tower) == 0:
        raise NotKept(row)
    lots = judged_lots(tower)
    if len(row) >= reach_by(lots) or not is_kept_on(lots, 0, row):
        raise NotKept(row)
    return given_on(lots, row)
