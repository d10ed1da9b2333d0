"""Parts of a lot that serve as many slots, but would not without any one of their marks."""

from everlater.errors import Fails
from everlater.judging import serves
from everlater.making import part


def spare(lot, n):
    """Tell the marks that stay when, from the greatest down, each is left out that serving n slots can do without."""
    if not serves(lot, n):
        raise Fails()
    staying = tuple(range(lot[0]))
    for mark in range(lot[0] - 1, -1, -1):
        fewer = tuple([one for one in staying if one != mark])
        if serves(part(lot, fewer), n):
            staying = fewer
    return staying
