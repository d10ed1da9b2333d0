"""Point 22: texts that are read again, right and spoilt; the whole's (h)."""

import itertools
import random
import unittest

from everlater.boards import Board
from everlater.errors import MarkError, NoDeed, NoText
from everlater.reading import read_board, read_lot, read_row, read_tower
from everlater.showing import show_board, show_held, show_lot, show_row, show_tower
from tests.plain import (RING, Refusing, all_lots, apart, beside, line, no_pairs, outcome, plain_marks, plain_read,
                         plain_show_board, plain_show_lot, plain_show_tower, some_lots, spoilt_texts, squares, things, within)

# Of this lot some rows are not kept: marks that lead out of the book.
TAILED = beside(no_pairs(1), apart(RING, no_pairs(1)))
LOTS = [lot for many in range(4) for lot in all_lots(many)] + [line(24), no_pairs(24), squares(7), squares(23),
        within(RING, squares(7)), apart(RING, line(2)), beside(RING, RING), *some_lots(24, 3, 231), *some_lots(11, 5, 232, 0.4)]
TOWERS = [(lot,) for lot in LOTS if lot[0]] + [(RING, RING), (RING, line(2), no_pairs(1)), (RING,) * 40, (squares(7),) * 40,
                                               (no_pairs(24),) * 40, tuple(some_lots(6, 40, 233))]
RING_TEXT = "lot 3\n0 over 2\n1 over 0\n2 over 1"


class Readers(Refusing):
    def no_text(self, row, ask, *arguments):
        with self.assertRaises(NoText) as caught:
            ask(*arguments)
        self.assertIs(type(caught.exception), NoText)
        self.assertEqual(caught.exception.row, row, arguments)
        self.assertIs(type(caught.exception.row), int)

    def told_board(self, text):
        """What read_board tells, as plain_read tells it."""
        told = outcome(read_board, text)
        if told[0] != "told":
            return told
        self.assertIs(type(told[1]), Board)
        self.refused(NoDeed, (), told[1].back)
        return "told", (told[1].its_tower(), told[1].marks())


class Lots(Readers):
    def test_what_is_shown(self):
        for lot in LOTS:
            self.assertEqual(read_lot(show_lot(lot)), lot)
            self.assertEqual(read_lot(plain_show_lot(lot)), lot)

    def test_by_hand(self):
        self.assertEqual(read_lot("lot 0"), (0, ()))
        self.assertEqual(read_lot("lot 24"), (24, ()))
        self.assertEqual(read_lot(RING_TEXT), RING)
        self.assertEqual(read_lot("lot 12\n1 over 0 3\n11 over 2 10"), (12, ((1, 0), (1, 3), (11, 2), (11, 10))))
        for text in ("", "lot", "lot ", "lot 25", "lot 03", "lot 00", "lot -1", "lot 3 ", " lot 3", "lot  3", "Lot 3", "lot 3 4",
                     "lot 99999", "in", "board 1", "lot x", "lot 3.", "\n", "lot 3\t", "0 over 1", "lot 1" * 2, "lot +3"):
            self.no_text(0, read_lot, text)
        for row in ("", " ", "in", "lot 3", "0", "0 over", "0 over ", "over 1", "0 over 0", "0 over 3", "3 over 0", "0 over 01",
                    "00 over 1", "0 over 2 1", "0 over 1 1", "0 over  1", "0 over 1 ", " 0 over 1", "0 under 1", "0 Over 1",
                    "0 over 1 over 2", "0 over x", "x over 0", "0 over 1.2", "-", "0 over 99999", "0 over -1"):
            self.no_text(1, read_lot, "lot 3\n" + row)
            self.no_text(1, read_lot, "lot 3\n" + row + "\n" + row)
            self.no_text(2, read_lot, "lot 5\n1 over 4\n" + row.replace("3", "5"))
        self.no_text(2, read_lot, "lot 3\n1 over 0\n0 over 2")
        self.no_text(2, read_lot, "lot 3\n1 over 0\n1 over 2")

    def test_a_pair_both_ways_round_is_seen_at_the_later_row(self):
        self.no_text(2, read_lot, "lot 3\n0 over 1\n1 over 0")
        self.no_text(3, read_lot, "lot 4\n0 over 3\n1 over 0\n3 over 0 1")
        self.no_text(3, read_lot, "lot 4\n0 over 1 2 3\n1 over 2\n2 over 1\n3 over 0")

    def test_spoilt(self):
        chance = random.Random(234)
        seen = {"told": 0, "NoText": 0}
        for lot in LOTS[:8] + LOTS[20:26] + [squares(7), apart(RING, line(2)), line(13), no_pairs(24), no_pairs(0)]:
            for text in spoilt_texts(show_lot(lot), chance):
                told = outcome(read_lot, text)
                self.assertEqual(told, plain_read("lot", text), text)
                seen[told[0]] += 1
        self.assertGreater(min(seen.values()), 50)

    def test_long_ones_spoilt_at_some_places(self):
        chance = random.Random(235)
        for lot in (line(24), squares(23), within(RING, squares(7))):
            texts = list(spoilt_texts(show_lot(lot), chance))
            for text in chance.sample(texts, 60):
                self.assertEqual(outcome(read_lot, text), plain_read("lot", text), text)


class Towers(Readers):
    def test_what_is_shown(self):
        for tower in TOWERS:
            self.assertEqual(read_tower(show_tower(tower)), tower)
            self.assertEqual(read_tower(plain_show_tower(tower)), tower)
            if len(tower) == 1:
                self.assertEqual(read_tower(show_lot(tower[0])), tower)

    def test_by_hand(self):
        self.assertEqual(read_tower("lot 1\nin\nlot 2\n1 over 0"), (no_pairs(1), line(2)))
        for text, row in [("", 0), ("in", 0), ("lot 0", 0), ("lot 1\nin", 2), ("lot 1\nin\nin", 2), ("lot 1\nin\nlot 0", 2),
                          ("lot 1\nin\n", 2), ("lot 1\nlot 1", 1), ("lot 1\n", 1), ("lot 2\n1 over 0\nin\nlot 0\n", 3),
                          ("lot 1\nin\nlot 25", 2), ("lot 1\nin\nlot 2\n0 over 1\n1 over 0", 4), ("lot 1\n in", 1),
                          ("lot 1\nin ", 1), ("lot 1\nIn\nlot 1", 1), ("lot 2\nin\nlot 2\n0 over 2\nin", 3), ("in\nlot 1", 0),
                          (RING_TEXT + "\nin", 5), (RING_TEXT + "\nin\n" + RING_TEXT + "\nin\nlot 3\n0 over 3", 11)]:
            self.no_text(row, read_tower, text)

    def test_a_pair_of_one_lot_is_nothing_to_the_next(self):
        text = "lot 2\n0 over 1\nin\nlot 2\n1 over 0"
        self.assertEqual(read_tower(text), ((2, ((0, 1),)), line(2)))

    def test_forty_and_forty_one_lots(self):
        text = "\nin\n".join(["lot 1"] * 40)
        self.assertEqual(read_tower(text), (no_pairs(1),) * 40)
        for more in ("\nin", "\nin\nlot 1", "\nin\nx", "\nin\nin"):
            self.no_text(79, read_tower, text + more)
        text = "\nin\n".join([RING_TEXT] * 40)
        self.assertEqual(read_tower(text), (RING,) * 40)
        self.no_text(199, read_tower, text + "\nin\nlot 1")
        self.no_text(199, read_tower, text + "\n")

    def test_a_lot_of_no_mark_is_seen_at_its_first_row(self):
        self.no_text(0, read_tower, "lot 0\nin\nlot 1")
        self.no_text(5, read_tower, RING_TEXT + "\nin\nlot 0\nin\nlot 1")

    def test_spoilt(self):
        chance = random.Random(236)
        seen = {"told": 0, "NoText": 0}
        for tower in [(RING,), (RING, RING), (line(3), no_pairs(1), RING), (no_pairs(12), line(2)), (squares(7), no_pairs(2))]:
            for text in spoilt_texts(show_tower(tower), chance):
                told = outcome(read_tower, text)
                self.assertEqual(told, plain_read("tower", text), text)
                seen[told[0]] += 1
        for tower in [(RING,) * 40, tuple(some_lots(4, 39, 237))]:
            for text in chance.sample(list(spoilt_texts(show_tower(tower), chance, 1)), 40):
                self.assertEqual(outcome(read_tower, text), plain_read("tower", text), text)
        self.assertGreater(min(seen.values()), 50)


class Boards(Readers):
    def test_what_is_shown(self):
        chance = random.Random(238)
        for tower, many in [((RING,), 1), ((RING,), 2), ((line(24), no_pairs(3)), 1), ((RING, RING), 3), ((RING,) * 40, 41),
                            ((squares(7),) * 40, 60), ((no_pairs(1),), 1), ((TAILED, RING), 3), (tuple(some_lots(8, 40, 239, 1)), 9)]:
            board = Board(tower, many)
            for time in range(10):
                again = read_board(show_board(board))
                self.assertIs(type(again), Board)
                self.assertEqual(again, board)
                self.refused(NoDeed, (), again.back)
                self.assertEqual(again.write(many - 1), board.write(many - 1))
                board.write(chance.randrange(many))
                board.take(chance.randrange(many), board.oldest())

    def test_by_hand(self):
        board = read_board("board 3\n0.1 - 0.1\n" + RING_TEXT + "\nin\n" + RING_TEXT)
        self.assertEqual(board, Board((RING, RING), 3, held=((0, 1), None, (0, 1))))
        for text, row in [("", 0), ("board", 0), ("board 0", 0), ("board 61", 0), ("board 01", 0), ("board 1 ", 0), (" board 1", 0),
                          ("Board 1", 0), ("board 1", 1), ("board 1\n", 1), ("board 1\n-", 2), ("board 60\n" + " ".join("-" * 60), 2),
                          ("board 1\n-\n", 2), ("board 1\n- -", 1), ("board 2\n-", 1), ("board 2\n-  -", 1), ("board 2\n- - ", 1),
                          ("board 1\n--", 1), ("board 1\n0.", 1), ("board 1\n.0", 1), ("board 1\n0..0", 1), ("board 1\n01", 1),
                          ("board 1\n0.01", 1), ("board 1\n0,0", 1), ("board 1\nx", 1), ("board 1\n-1", 1), ("board 1\n0:0", 1),
                          ("board 1\n-\nin", 2), ("board 1\n-\nlot 0", 2), ("board 1\n-\nlot 1\nin", 4),
                          ("board 1\n0.0\nlot 1\nlot 1", 3), ("board 1\nlot 1", 1), ("lot 1", 0), ("1", 0)]:
            self.no_text(row, read_board, text)

    def test_all_else_is_told_with_the_number_of_rows(self):
        rings = RING_TEXT + "\nin\n" + RING_TEXT
        for first, second in [("board 4", "- - - -"), ("board 60", " ".join("-" * 60)), ("board 3", "0 - -"), ("board 3", "0.0.0 - -"),
                              ("board 3", "0.3 - -"), ("board 3", "99.0 - -"), ("board 3", "- - 0." + "9" * 59),
                              ("board 3", "0.0 1.0 2.0"), ("board 3", "0.0 0.1 0.2"), ("board 4", "0.9 - - -")]:
            self.no_text(11, read_board, f"{first}\n{second}\n{rings}")
            # A row that is of no form goes ahead.
            self.no_text(6, read_board, f"{first}\n{second}\n{RING_TEXT}\nx\n{RING_TEXT}")
        self.no_text(3, read_board, "board 2\n- -\nlot 1")
        self.no_text(3, read_board, "board 1\n1\nlot 1")
        self.no_text(2, read_board, "board 2\n9 -")
        tailed = show_tower((TAILED,))
        self.no_text(2 + len(tailed.split("\n")), read_board, "board 2\n4 -\n" + tailed)
        self.assertEqual(read_board("board 2\n1 2\n" + tailed).order(), ((0,), (1,)))

    def test_spoilt(self):
        chance = random.Random(240)
        seen = {"told": 0, "NoText": 0}
        for tower, held in [((RING,), (None, (2,))), ((RING, RING), ((0, 1), None, (0, 1))), ((line(3),), (None,)),
                            ((RING, no_pairs(2), line(2)), (None, (1, 0, 1))), ((squares(7),), ((1,), (2,), (1,))),
                            ((TAILED,), ((1,), (0,)))]:
            text = plain_show_board(tower, held)
            for spoilt in spoilt_texts(text, chance):
                told = self.told_board(spoilt)
                self.assertEqual(told, plain_read("board", spoilt), spoilt)
                seen[told[0]] += 1
        self.assertGreater(min(seen.values()), 50)

    def test_high_ones_spoilt_at_some_places(self):
        chance = random.Random(241)
        board = Board((RING,) * 40, 41)
        for slot in range(0, 41, 2):
            board.write(slot)
        for text in chance.sample(list(spoilt_texts(show_board(board), chance, 1)), 60):
            self.assertEqual(self.told_board(text), plain_read("board", text), text)

    def test_all_that_may_be_held(self):
        for tower, many in [((RING,), 2), ((RING, line(2)), 2), ((TAILED,), 2), ((no_pairs(3),), 1)]:
            for held in itertools.product([None] + plain_marks(tower), repeat=many):
                text = plain_show_board(tower, held)
                self.assertEqual(self.told_board(text), plain_read("board", text))


class Rows(Readers):
    def test_what_is_shown_perhaps_no_row(self):
        chance = random.Random(242)
        for tower in TOWERS:
            for size in range(5):
                marks = tuple(tuple(chance.randrange(lot[0]) for lot in tower) for mark in range(size))
                self.assertEqual(read_row(tower, show_row(marks)), marks)
                self.assertIs(type(read_row(tower, show_row(marks))), tuple)
                if size:
                    self.assertEqual(read_row(tower, show_held(marks)), marks)

    def test_by_hand(self):
        self.assertEqual(read_row((RING,), "-"), ())
        self.assertEqual(read_row((RING,), "0 1 2 0"), ((0,), (1,), (2,), (0,)))
        self.assertEqual(read_row((RING, no_pairs(24)), "2.23 0.0"), ((2, 23), (0, 0)))
        for wrong in ("", " ", "- -", "0 -", "-0", "3", "0 3", "0  1", "0 1 ", " 0 1", "00", "01", "0.0", "0 1.0", ".", "0.", ".0", "x",
                      "0,1", "0\n1", "0\n", "\n", "999999", "-1", "+0", "0:0", "--"):
            self.no_text(0, read_row, (RING,), wrong)
        for wrong in ("0", "0.0.0", "3.0", "0.24", "0.0 0", "0.00", "0..0", "0. 0", "0 .0", "0.0\n", "9" * 60 + ".0"):
            self.no_text(0, read_row, (RING, no_pairs(24)), wrong)

    def test_spoilt(self):
        chance = random.Random(243)
        for tower in [(RING,), (RING, no_pairs(12)), (line(24), RING, no_pairs(1))]:
            right = {show_row(marks): marks for size in range(3) for marks in itertools.product(plain_marks(tower), repeat=size)}
            for text in chance.sample(list(right), 12):
                for spoilt in spoilt_texts(text, chance):
                    if spoilt.count(" ") < 2 and "- " not in spoilt:
                        told = ("told", right[spoilt]) if spoilt in right else ("NoText", (0,))
                        self.assertEqual(outcome(read_row, tower, spoilt), told, spoilt)


class OfAnything(Readers):
    def test_no_text_at_all(self):
        for thing in things() + [RING, (RING,), Board((RING,), 1), ["lot 1"], ("lot 1",), {"lot 1": 1}, [], None, True, 0]:
            if not isinstance(thing, str):
                for ask in (read_lot, read_tower, read_board):
                    self.no_text(0, ask, thing)
                self.no_text(0, read_row, (RING,), thing)

    def test_long_texts(self):
        for text in ("9" * 20000, "lot " + "9" * 19000, "\n" * 20000, " " * 20000, "-" * 20000, "." * 20000, "in\n" * 6000):
            for ask in (read_lot, read_tower, read_board):
                self.no_text(0, ask, text)
            self.no_text(0, read_row, (RING,), text)
        self.no_text(1, read_lot, "lot 3\n" * 3000)
        self.no_text(1, read_tower, "lot 3" + "\n0" * 9000)
        self.no_text(3, read_board, "board 1\n" + "9" * 60 + "\nlot 1")
        text = show_board(Board((squares(7),) * 40, 60))
        self.assertLess(len(text), 20000)
        self.assertEqual(show_board(read_board(text)), text)
        text = show_tower((line(24),) * 20)
        self.assertEqual(show_tower(read_tower(text)), text)

    def test_by_names(self):
        self.assertEqual(read_lot(text="lot 1"), no_pairs(1))
        self.assertEqual(read_tower(text="lot 1"), (no_pairs(1),))
        self.assertEqual(read_board(text="board 1\n-\nlot 1"), Board((no_pairs(1),), 1))
        self.assertEqual(read_row(text="0", tower=(no_pairs(1),)), ((0,),))
        with self.assertRaises(MarkError):
            read_row(tower=(RING,), text=None)

    def test_asked_again_the_same_and_each_board_of_its_own(self):
        text = "board 2\n- 0\n" + RING_TEXT
        one, other = read_board(text), read_board(text)
        self.assertEqual(one, other)
        one.write(0)
        self.assertEqual(other, read_board(text))
        self.assertNotEqual(one, other)
        self.assertEqual(read_tower(RING_TEXT), read_tower(RING_TEXT))
        thing = [["lot 1"], {"a": [0]}]
        for ask in (read_lot, read_tower, read_board, lambda thing: read_row((RING,), thing)):
            self.no_text(0, ask, thing)
        self.assertEqual(thing, [["lot 1"], {"a": [0]}])


if __name__ == "__main__":
    unittest.main()
