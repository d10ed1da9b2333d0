"""Papers: rows that show to whoever looks them through that a lot serves n slots, or that it does not."""

from everlater.judging import goes, sifted, ways_on
from everlater.lots import are_rising, is_whole

SERVES = "serves"
FAILS = "fails"


def paper(lot, n):
    """Tell a paper of the lot and n: the book, or all rows in the order in which they go."""
    told, staying = sifted(lot, n)
    if staying:
        return (SERVES, tuple(staying))
    return (FAILS, tuple([row for going in told for row in going]))


def has_numbers(thing):
    """Tell whether the thing is a tuple of whole numbers."""
    return isinstance(thing, tuple) and all([is_whole(mark) for mark in thing])


def are_rows(ways, thing):
    """Tell whether the thing is a tuple of rows of n - 1 marks, of all of which ways_on tells the ways."""
    # The kinds come first: what is no tuple of numbers can't be looked up, or is like one only to Python.
    return isinstance(thing, tuple) and all([has_numbers(row) and row in ways for row in thing])


def stays(ways, kept):
    """Tell whether by one of the ways all leavings are kept."""
    return any([all([leaving in kept for leaving in way]) for way in ways])


def shows_serving(ways, told):
    """Tell whether these rows show that the lot serves."""
    kept = {row: True for row in told}
    return told != () and are_rising(told) and all([stays(ways[row], kept) for row in told])


def shows_failing(ways, told):
    """Tell whether these rows, in this order, show that the lot fails."""
    ahead = {}
    for row in told:
        if row in ahead or not goes(ways[row], ahead):
            return False
        ahead[row] = True
    return len(ahead) == len(ways)


def shows_paper(lot, n, thing):
    """Tell whether the thing, whatever it is, is a paper of the lot and n."""
    if not isinstance(thing, tuple) or len(thing) != 2:
        return False
    word, told = thing
    ways = ways_on(lot, n)
    if not are_rows(ways, told):
        return False
    if word == SERVES:
        return shows_serving(ways, told)
    return word == FAILS and shows_failing(ways, told)
