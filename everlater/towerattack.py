"""Who attacks a tower: which slot is to be written next, so that whoever gives must fail.

A lot is told here as (lot, reach, gone): with one slot more than its reach all its rows
of as many marks as the reach go, and gone has the round of each.
"""

from everlater.errors import NotHeld
from everlater.judging import hope_by, judged
from everlater.towers import blocks, has_marks_or_none, order_in


def broken_lot(lot):
    """Tell the lot with its reach, and the rounds of its rows for one slot more."""
    n = 1
    gone, staying = judged(lot, n)
    while staying:
        n += 1
        gone, staying = judged(lot, n)
    return (lot, n - 1, gone)


def broken_lots(tower):
    """Tell the tower's lots, each with its reach and the rounds of its rows for one slot more."""
    # A high tower often has the same lot again and again: each is judged once.
    known = {lot: broken_lot(lot) for lot in sorted(set(tower))}
    return [known[lot] for lot in tower]


def lasts_in(tower):
    """Tell within how many writings whoever gives fails in one slot more than the tower's reach."""
    product = 1
    for lot, most, gone in broken_lots(tower):
        # This is lasts for one slot more than the reach, less 1; for so many the book is empty.
        product *= most + hope_by(lot, most + 1, (gone, []), ())
    return product + 1


def is_held_in(tower, many, thing):
    """Tell whether the thing, whatever it is, can be held by so many slots, unlike marks in all of them."""
    if not has_marks_or_none(tower, many, thing):
        return False
    marks = [one for one in thing if one is not None]
    row = order_in(tower, marks)
    return row is not None and len(row) == len(marks)


def parts_of(row, size):
    """Tell all parts of the row that have just so many marks."""
    found = [()]
    for mark in row:
        found = found + [one + (mark,) for one in found if len(one) < size]
    return [one for one in found if len(one) == size]


def weakest_part(row, most, gone):
    """Tell that part of the row, of so many marks at the most, that goes in the earliest round."""
    return row if len(row) <= most else min(parts_of(row, most), key=lambda one: gone[one])


def weakest_part_with_last(row, most, gone):
    """Tell likewise that part among those only that have the last mark of the row."""
    if len(row) <= most:
        return row
    found = [one + row[-1:] for one in parts_of(row[:-1], most - 1)]
    return min(found, key=lambda one: gone[one])


def guarded(lots, row):
    """Tell, as a dict, the marks of the row that stay; they are no more than the reach of the tower.

    Each lot is attacked by its weakest part, a mark of the tower for each of the part's marks; but the last
    of these is a whole block, the one that is written in, and there the lots behind are attacked. Whoever
    gives either goes on in that block, and comes nearer to its end, or leaves it, and comes nearer to the
    end of the lot: so often as the product of what the lots last, not more.
    """
    staying = {}
    block = row
    for at, (lot, most, gone) in enumerate(lots):
        found = blocks(block, at)
        outer = tuple(found)
        if at == len(lots) - 1:
            alone = weakest_part(outer, most, gone)
        else:
            alone = weakest_part_with_last(outer, most, gone)[:-1]
        for one in alone:
            staying[found[one][0]] = True
        block = found[outer[-1]]
    return staying


def attack_in(tower, held):
    """Tell the slot that is to be written next: asked ahead of each writing, it makes whoever gives fail."""
    lots = broken_lots(tower)
    if not is_held_in(tower, 2 + sum([most - 1 for lot, most, gone in lots]), held):
        raise NotHeld(held)
    # A slot that holds nothing costs who gives the most: one mark more that all further ones must be later than.
    if None in held:
        return held.index(None)
    staying = guarded(lots, order_in(tower, held))
    return [slot for slot, mark in enumerate(held) if mark not in staying][0]
