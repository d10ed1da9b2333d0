"""The judge: which rows of n - 1 marks go, round by round, and which of them never do."""

from everlater.lots import above, later_table, rows_with_above, still_above


def leavings(row, mark):
    """Tell the rows that come of this one when one mark is left out and this mark put to its end."""
    return [row[:at] + row[at + 1:] + (mark,) for at in range(len(row))]


def ways_on(lot, n):
    """Tell of each row of n - 1 marks, rising, its leavings by each mark later than all of it."""
    return {row: [leavings(row, mark) for mark in high] for row, high in rows_with_above(lot, n - 1)}


def goes(ways, gone):
    """Tell whether by each of the ways some leaving has gone."""
    return all([any([leaving in gone for leaving in way]) for way in ways])


def sifted(lot, n):
    """Tell the rounds of the rows that go, and the book of those that never do, as lists."""
    ways = ways_on(lot, n)
    staying = list(ways)
    gone = {}
    told = []
    going = [row for row in staying if goes(ways[row], gone)]
    # A round in which none goes changes nothing for the next one, so it is the end.
    while going:
        told.append(going)
        for row in going:
            gone[row] = True
        staying = [row for row in staying if row not in gone]
        going = [row for row in staying if goes(ways[row], gone)]
    return told, staying


def rounds(lot, n):
    """Tell the rounds, each the rising tuple of the rows of n - 1 marks that go in it."""
    told, staying = sifted(lot, n)
    return tuple([tuple(going) for going in told])


def book(lot, n):
    """Tell the rows of n - 1 marks that never go, rising."""
    told, staying = sifted(lot, n)
    return tuple(staying)


def serves(lot, n):
    """Tell whether the lot serves n slots: marks can be given for ever without failing."""
    return book(lot, n) != ()


def reach(lot):
    """Tell the greatest number of slots that the lot serves, 0 where it serves none."""
    # What serves some slots serves fewer, too: the parts of a book's rows are kept as these are.
    n = 0
    while serves(lot, n + 1):
        n += 1
    return n


def is_part(row, other):
    """Tell whether one row of a lot is a part of another one.

    The lot alone orders the marks of both, so it is enough that the other has them.
    """
    return all([mark in other for mark in row])


def best_hope(table, n, gone, row, high):
    """Tell the hope of a row that is no part of a row of the book; gone has the rounds, high what is above it."""
    if row in gone:
        return gone[row]
    # Rows of n - 1 marks all have their rounds, so only a row longer than n allows ends here by its length.
    if not high or len(row) >= n:
        return len(row) + 1 - n
    return max([best_hope(table, n, gone, row + (mark,), still_above(table, high, mark)) for mark in high])


def judged(lot, n):
    """Tell the round of each row of n - 1 marks that goes, and the book: what the hopes of many rows are told by."""
    told, staying = sifted(lot, n)
    return {row: at for at, going in enumerate(told) for row in going}, staying


def hope_by(lot, n, judgement, row):
    """Tell the hope of a row by what judged tells of the lot and n."""
    gone, staying = judgement
    if any([is_part(row, kept) for kept in staying]):
        return None
    return best_hope(later_table(lot), n, gone, row, above(lot, row))


def hope(lot, n, row):
    """Tell the hope of a row of at most n - 1 marks, None where it is a part of a row of the book."""
    return hope_by(lot, n, judged(lot, n), row)


def lasts(lot, n):
    """Tell within how many writings whoever gives can be made to fail, None where the lot serves n slots."""
    most = hope(lot, n, ())
    return None if most is None else n + most
