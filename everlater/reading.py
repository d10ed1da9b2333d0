"""Texts read again: of what is not so written the row is told at which that is seen.

Rows are counted from the first one of the whole text, wherever the lot or tower that is read begins.
"""

from everlater.boards import Board
from everlater.errors import NoReach, NoText, NotHeld
from everlater.holding import MOST_SLOTS
from everlater.lots import MOST_MARKS
from everlater.showing import NOTHING
from everlater.towers import MOST_LOTS, is_mark

FIGURES = "0123456789"
# No number of more figures than these is any mark, slot, or how many there are.
MOST_FIGURES = 3
BETWEEN_LOTS = "in"


def is_number(word):
    """Tell whether the word is a number: figures, no 0 ahead but in 0."""
    if word == "" or not all([sign in FIGURES for sign in word]):
        return False
    return word == "0" or word[0] != "0"


def number_of(word):
    """Tell the number that the word is, None where it is none, or one of more figures than are ever needed."""
    return int(word) if len(word) <= MOST_FIGURES and is_number(word) else None


def rows_of(text):
    """Tell the text's rows; refused where it is no text."""
    if not isinstance(text, str):
        raise NoText(0)
    return text.split("\n")


def many_of(rows, at, name, least, most):
    """Tell how many the row at this place names, from the least to the most: the name, a number."""
    # Where a row must come that doesn't, this is how many rows there are.
    if at >= len(rows):
        raise NoText(at)
    words = rows[at].split(" ")
    if len(words) != 2 or words[0] != name:
        raise NoText(at)
    many = number_of(words[1])
    if many is None or not least <= many <= most:
        raise NoText(at)
    return many


def pairs_of(row):
    """Tell the pairs (x, y) that a lot's row names, x over each y; None where it is of no such form."""
    words = row.split(" ")
    if len(words) < 3 or words[1] != "over":
        return None
    x = number_of(words[0])
    lower = [number_of(word) for word in words[2:]]
    return None if x is None or None in lower else [(x, y) for y in lower]


def go_on(many, pairs, more):
    """Tell whether these further pairs of one mark may stand behind the others, in a lot of so many marks."""
    x = more[0][0]
    lower = [pair[1] for pair in more]
    if x >= many or (pairs and pairs[-1][0] >= x):
        return False
    if x in lower or lower[-1] >= many:
        return False
    rising = all([one < other for one, other in zip(lower, lower[1:])])
    return rising and not any([(y, x) in pairs for y in lower])


def lot_from(rows, start, least):
    """Tell the lot whose text begins at this row, of at least so many marks, and the row behind it.

    Behind it the text ends, or goes on with the row that stands between two lots.
    """
    many = many_of(rows, start, "lot", least, MOST_MARKS)
    pairs = []
    at = start + 1
    while at < len(rows) and rows[at] != BETWEEN_LOTS:
        more = pairs_of(rows[at])
        if more is None or not go_on(many, pairs, more):
            raise NoText(at)
        pairs.extend(more)
        at += 1
    return (many, tuple(pairs)), at


def tower_from(rows, start):
    """Tell the tower whose text begins at this row and ends with the whole text."""
    lot, at = lot_from(rows, start, 1)
    lots = [lot]
    while at < len(rows):
        if len(lots) == MOST_LOTS:
            raise NoText(at)
        lot, at = lot_from(rows, at + 1, 1)
        lots.append(lot)
    return tuple(lots)


def read_lot(text):
    """Tell the lot of the text."""
    rows = rows_of(text)
    lot, at = lot_from(rows, 0, 0)
    if at < len(rows):
        raise NoText(at)
    return lot


def read_tower(text):
    """Tell the tower of the text."""
    return tower_from(rows_of(text), 0)


def is_mark_written(word):
    """Tell whether the word is numbers with points between, of whatever tower."""
    return all([is_number(one) for one in word.split(".")])


def mark_of(word):
    """Tell the mark that the word is, with None where a number is too great for any mark."""
    return tuple([number_of(one) for one in word.split(".")])


def held_from(rows, at, many):
    """Tell what the row at this place says that so many slots hold, whatever the tower is."""
    if at >= len(rows):
        raise NoText(at)
    words = rows[at].split(" ")
    if len(words) != many or not all([word == NOTHING or is_mark_written(word) for word in words]):
        raise NoText(at)
    return tuple([None if word == NOTHING else mark_of(word) for word in words])


def read_board(text):
    """Tell the board of the text, without deeds."""
    rows = rows_of(text)
    many = many_of(rows, 0, "board", 1, MOST_SLOTS)
    held = held_from(rows, 1, many)
    tower = tower_from(rows, 2)
    try:
        return Board(tower, many, held=held)
    except (NoReach, NotHeld):
        raise NoText(len(rows)) from None


def read_row(tower, text):
    """Tell the marks of the tower that the text has, perhaps no row of it."""
    if not isinstance(text, str):
        raise NoText(0)
    if text == NOTHING:
        return ()
    marks = tuple([mark_of(word) for word in text.split(" ")])
    if not all([is_mark(tower, mark) for mark in marks]):
        raise NoText(0)
    return marks
