"""Lots for the tests, and the document's points played through plainly, without the program."""

import itertools
import math
import random

ENDLESS = math.inf


# Lots.

def line(many):
    return many, tuple((x, y) for x in range(many) for y in range(x))


def no_pairs(many):
    return many, ()


def squares(p):
    rests = {x * x % p for x in range(1, p)}
    return p, tuple((x, y) for x in range(p) for y in range(p) if (x - y) % p in rests)


RING = (3, ((0, 2), (1, 0), (2, 1)))
RING_TURNED = (3, ((0, 1), (1, 2), (2, 0)))


def beside(lot, other):
    many = lot[0]
    pairs = list(lot[1]) + [(x + many, y + many) for x, y in other[1]]
    pairs += [(x + many, y) for x in range(other[0]) for y in range(many)]
    return many + other[0], tuple(sorted(pairs))


def apart(lot, other):
    """Both lots in one, no mark of the one later than any of the other."""
    many = lot[0]
    return many + other[0], tuple(sorted(list(lot[1]) + [(x + many, y + many) for x, y in other[1]]))


def within(lot, other):
    many = other[0]
    marks = list(itertools.product(range(lot[0]), range(many)))
    pairs = [(a * many + b, c * many + d) for a, b in marks for c, d in marks
             if (a, c) in lot[1] or (a == c and (b, d) in other[1])]
    return lot[0] * many, tuple(sorted(pairs))


def part(lot, marks):
    pairs = [(marks.index(x), marks.index(y)) for x, y in lot[1] if x in marks and y in marks]
    return len(marks), tuple(sorted(pairs))


def renamed(lot, names):
    return lot[0], tuple(sorted((names[x], names[y]) for x, y in lot[1]))


def all_lots(many, always=False):
    """All lots of so many marks; with always, those only in which of any two marks one is later."""
    twos = list(itertools.combinations(range(many), 2))
    for ways in itertools.product((1, 2) if always else (0, 1, 2), repeat=len(twos)):
        pairs = [(x, y) if way == 1 else (y, x) for (x, y), way in zip(twos, ways) if way]
        yield many, tuple(sorted(pairs))


def some_lots(many, count, seed, share=0.9):
    """Lots of so many marks by a fixed seed; about this share of all pairs is there."""
    chance = random.Random(seed)
    for number in range(count):
        pairs = [two if chance.random() < 0.5 else two[::-1]
                 for two in itertools.combinations(range(many), 2) if chance.random() < share]
        yield many, tuple(sorted(pairs))


# Point 4, by going through all orders.

def plain_is_row(lot, row):
    return all((row[b], row[a]) in lot[1] for b in range(len(row)) for a in range(b))


def plain_rows(lot, size):
    return tuple(sorted(row for row in itertools.permutations(range(lot[0]), size) if plain_is_row(lot, row)))


def plain_above(lot, marks):
    return tuple(x for x in range(lot[0]) if all((x, y) in lot[1] for y in marks))


def plain_in_order(lot, marks):
    found = [row for row in itertools.permutations(set(marks)) if plain_is_row(lot, row)]
    return found[0] if found else None


def parts(row):
    return {some for size in range(len(row) + 1) for some in itertools.combinations(row, size)}


# Point 6, round by round.

def plain_leavings(row, mark):
    return [tuple(x for x in row if x != out) + (mark,) for out in row]


def plain_rounds(lot, n):
    """The rounds and the book."""
    staying, gone, told = set(plain_rows(lot, n - 1)), set(), []
    while True:
        going = {row for row in staying
                 if all(gone.intersection(plain_leavings(row, mark)) for mark in plain_above(lot, row))}
        if not going:
            return tuple(told), tuple(sorted(staying))
        told.append(tuple(sorted(going)))
        staying -= going
        gone |= going


# Point 7, by what it says of hopes alone: from endless ones down, until nothing changes.

def hope_once(lot, n, row, known):
    high = plain_above(lot, row)
    if not high:
        return len(row) + 1 - n
    if len(row) < n - 1:
        return max(known[row + (mark,)] for mark in high)
    return 1 + max(min([known[left] for left in plain_leavings(row, mark)], default=ENDLESS) for mark in high)


def plain_hopes(lot, n):
    """The hope of each row of at most n - 1 marks."""
    kept = set().union(*[parts(row) for row in plain_rounds(lot, n)[1]])
    known = {row: ENDLESS for size in range(n) for row in plain_rows(lot, size)}
    changed = True
    while changed:
        new = {row: ENDLESS if row in kept else hope_once(lot, n, row, known) for row in known}
        changed = new != known
        known = new
    return {row: None if known[row] == ENDLESS else known[row] for row in known}


# Point 5, played through: who gives against who chooses the slots.

def without(held, at):
    return held[:at] + held[at + 1:]


def slots_free_to_write(held, n):
    """What the other slots hold, for each slot that may be written. Slots are alike, so held is sorted."""
    others = {without(held, at) for at in range(len(held))}
    return others | ({held} if len(held) < n else set())


def written(lot, others):
    """What is held behind a writing that doesn't fail, for each mark that may be given."""
    return [tuple(sorted(others + (mark,))) for mark in plain_above(lot, others)]


def taken_or_dropped(held, n):
    """What may be held when a slot takes what another one holds, or is dropped."""
    found = {without(held, at) for at in range(len(held))}
    for others in slots_free_to_write(held, n):
        found |= {tuple(sorted(others + (mark,))) for mark in held}
    return found


def holdings(lot, n):
    """All that n slots can hold as long as no writing has failed; alike marks too."""
    found = set()
    for size in range(n + 1):
        for held in itertools.combinations_with_replacement(range(lot[0]), size):
            if plain_in_order(lot, held) is not None:
                found.add(held)
    return found


def writings_left(lot, n, moves_too):
    """Of all that n slots can hold: within how many writings whoever gives can be made to fail."""
    left = {held: ENDLESS for held in holdings(lot, n)}
    changed = True
    while changed:
        changed = False
        for held in left:
            found = [1 + max([left[then] for then in written(lot, others)], default=0)
                     for others in slots_free_to_write(held, n)]
            if moves_too:
                found += [left[then] for then in taken_or_dropped(held, n)]
            if min(found) < left[held]:
                left[held] = min(found)
                changed = True
    return left
