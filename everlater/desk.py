"""A desk: a board that is spoken to by lines of text, and answers by texts."""

from everlater.errors import NoLine
from everlater.holding import check_full, check_slots
from everlater.reading import number_of, read_board
from everlater.showing import NOTHING, show_board, show_held, show_mark
from everlater.towerattack import lasts_in
from everlater.towers import later_in, many_in, reach_in, reaches

DONE = "done"


def show_slot(slot):
    """Tell the text of a slot, or of None in its stead."""
    return NOTHING if slot is None else str(slot)


def say_write(board, slots):
    """Write the slot: the mark."""
    return show_mark(board.write(slots[0]))


def say_take(board, slots):
    """Have the slot take what the other one holds."""
    board.take(slots[0], slots[1])
    return DONE


def say_drop(board, slots):
    """Have the slot hold nothing."""
    board.drop(slots[0])
    return DONE


def say_back(board, slots):
    """Take the last deed back."""
    board.back()
    return DONE


def say_marks(board, slots):
    """Tell what the slots hold."""
    return show_held(board.marks())


def say_order(board, slots):
    """Tell the groups of slots, the earliest written first."""
    groups = [",".join([str(slot) for slot in group]) for group in board.order()]
    return " ".join(groups) if groups else NOTHING


def say_newest(board, slots):
    """Tell the slot that holds the latest written mark."""
    return show_slot(board.newest())


def say_oldest(board, slots):
    """Tell the slot that holds the earliest written mark."""
    return show_slot(board.oldest())


def say_next(board, slots):
    """Tell the mark that would be written into the slot."""
    return show_mark(board.next_mark(slots[0]))


def say_full(board, slots):
    """Tell how many slots hold a mark."""
    return str(len(board))


def say_reach(board, slots):
    """Tell the tower's reach."""
    return str(reach_in(board.its_tower()))


def say_lasts(board, slots):
    """Tell how long the tower lasts in one slot more than its reach."""
    return str(lasts_in(board.its_tower()))


def say_many(board, slots):
    """Tell how many marks the tower has."""
    return str(many_in(board.its_tower()))


def say_lots(board, slots):
    """Tell the reach of each of the tower's lots."""
    return " ".join([str(most) for most in reaches(board.its_tower())])


def say_later(board, slots):
    """Tell whether what the one slot holds was written later than what the other one holds."""
    held = board.marks()
    check_slots(held, slots)
    for slot in slots:
        check_full(held, slot)
    return "yes" if later_in(board.its_tower(), held[slots[0]], held[slots[1]]) else "no"


def say_text(board, slots):
    """Tell the board's text in one row."""
    return show_board(board).replace("\n", "/")


ANSWERS = {
    "write": say_write,
    "take": say_take,
    "drop": say_drop,
    "back": say_back,
    "marks": say_marks,
    "order": say_order,
    "newest": say_newest,
    "oldest": say_oldest,
    "next": say_next,
    "full": say_full,
    "reach": say_reach,
    "lasts": say_lasts,
    "many": say_many,
    "lots": say_lots,
    "later": say_later,
    "text": say_text,
}
# How many slots are named behind a word; none behind those that are not here.
SLOTS_NAMED = {"write": 1, "take": 2, "drop": 1, "next": 1, "later": 2}


class Desk:
    """A board of a text, that answers lines."""

    def __init__(self, text):
        self.board = read_board(text)

    def say(self, line):
        """Tell what the line asks for, or do what it says and tell that."""
        if not isinstance(line, str):
            raise NoLine(line)
        word, *numbers = line.split(" ")
        slots = [number_of(one) for one in numbers]
        if word not in ANSWERS or len(slots) != SLOTS_NAMED.get(word, 0) or None in slots:
            raise NoLine(line)
        answer = ANSWERS[word]
        return answer(self.board, slots)
