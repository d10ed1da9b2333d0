"""Texts: how lots, towers, rows, what is held, letters and boards are written."""

# What stands for nothing: a slot that holds none, a row of no marks.
NOTHING = "-"


def show_lot_row(lot, mark):
    """Tell the row of a mark that is later than some: it and these; None where it is later than none."""
    lower = [str(y) for x, y in lot[1] if x == mark]
    return " ".join([str(mark), "over"] + lower) if lower else None


def show_lot(lot):
    """Tell the lot's text."""
    rows = [show_lot_row(lot, mark) for mark in range(lot[0])]
    return "\n".join([f"lot {lot[0]}"] + [row for row in rows if row is not None])


def show_tower(tower):
    """Tell the tower's text: its lots' texts, a row between each two."""
    return "\nin\n".join([show_lot(lot) for lot in tower])


def show_mark(mark):
    """Tell the text of a tower's mark, or of None in its stead."""
    return NOTHING if mark is None else ".".join([str(one) for one in mark])


def show_held(held):
    """Tell the text of what slots hold."""
    return " ".join([show_mark(one) for one in held])


def show_row(row):
    """Tell the text of a row of a tower."""
    return show_held(row) if row else NOTHING


def show_letter(letter):
    """Tell the letter's text."""
    mark, place = letter
    return f"{show_mark(mark)}:{place}"


def show_board(board):
    """Tell the board's text: how many slots it has, what these hold, its tower."""
    held = board.marks()
    return "\n".join([f"board {len(held)}", show_held(held), show_tower(board.its_tower())])
