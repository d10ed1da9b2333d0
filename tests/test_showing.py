"""Points 21 and 22: texts that are shown."""

import random
import unittest

from everlater.boards import Board
from everlater.posts import Post
from everlater.showing import show_board, show_held, show_letter, show_lot, show_row, show_tower
from tests.plain import (RING, all_lots, apart, beside, line, no_pairs, plain_show_board, plain_show_held, plain_show_lot,
                         plain_show_tower, some_lots, squares, within)

LOTS = [lot for many in range(4) for lot in all_lots(many)] + [line(24), no_pairs(24), squares(7), squares(23),
        within(RING, squares(7)), apart(RING, line(2)), beside(RING, RING), *some_lots(24, 3, 221), *some_lots(11, 5, 222, 0.4)]
TOWERS = [(lot,) for lot in LOTS if lot[0]] + [(RING, RING), (RING, line(2), no_pairs(1)), (RING,) * 40, (squares(23),) * 40,
                                               (no_pairs(24),) * 40, tuple(some_lots(9, 40, 223))]


class Show(unittest.TestCase):
    def same(self, told, text):
        self.assertIs(type(told), str)
        self.assertEqual(told, text)

    def test_lots_by_hand(self):
        self.same(show_lot(no_pairs(0)), "lot 0")
        self.same(show_lot(no_pairs(24)), "lot 24")
        self.same(show_lot(RING), "lot 3\n0 over 2\n1 over 0\n2 over 1")
        self.same(show_lot(line(4)), "lot 4\n1 over 0\n2 over 0 1\n3 over 0 1 2")
        self.same(show_lot((12, ((1, 0), (1, 3), (11, 2), (11, 10)))), "lot 12\n1 over 0 3\n11 over 2 10")

    def test_lots(self):
        for lot in LOTS:
            self.same(show_lot(lot), plain_show_lot(lot))

    def test_towers(self):
        self.same(show_tower((RING,)), "lot 3\n0 over 2\n1 over 0\n2 over 1")
        self.same(show_tower((line(2), no_pairs(1), line(2))), "lot 2\n1 over 0\nin\nlot 1\nin\nlot 2\n1 over 0")
        for tower in TOWERS:
            self.same(show_tower(tower), plain_show_tower(tower))

    def test_rows_and_what_is_held_by_hand(self):
        self.same(show_row(()), "-")
        self.same(show_row(((0,),)), "0")
        self.same(show_row(((2,), (10,), (2,))), "2 10 2")
        self.same(show_row(((2, 10), (0, 0))), "2.10 0.0")
        self.same(show_held((None,)), "-")
        self.same(show_held((None, (1,), None)), "- 1 -")
        self.same(show_held(((1, 2, 3), None, (1, 2, 3), (0, 0, 23))), "1.2.3 - 1.2.3 0.0.23")

    def test_rows_and_what_is_held(self):
        chance = random.Random(224)
        for tower in TOWERS:
            marks = tuple(tuple(chance.randrange(lot[0]) for lot in tower) for time in range(chance.randrange(1, 8)))
            self.same(show_row(marks), plain_show_held(marks))
            self.same(show_held(marks), plain_show_held(marks))
            held = tuple(chance.choice([None, mark]) for mark in marks)
            self.same(show_held(held), plain_show_held(held))

    def test_letters(self):
        self.same(show_letter(((0,), 0)), "0:0")
        self.same(show_letter(((0, 12), 10 ** 9 - 1)), "0.12:999999999")
        self.same(show_letter(((0,) * 40, 7)), ".".join("0" * 40) + ":7")
        post = Post((RING, RING), 3, 1)
        self.assertEqual([show_letter(post.give()) for time in range(7)],
                         ["0.0:0", "0.0:1", "0.0:2", "0.1:0", "0.1:1", "0.1:2", "0.2:0"])

    def test_boards(self):
        chance = random.Random(225)
        self.same(show_board(Board((RING,), 2)), "board 2\n- -\nlot 3\n0 over 2\n1 over 0\n2 over 1")
        for tower, many in [((RING,), 1), ((RING,), 2), ((line(24), no_pairs(3)), 1), ((RING, RING), 3), ((RING,) * 40, 41),
                            ((squares(7),) * 40, 60), ((no_pairs(1),), 1)]:
            board = Board(tower, many)
            for time in range(12):
                self.same(show_board(board), plain_show_board(tower, board.marks()))
                board.write(chance.randrange(many))
                if chance.random() < 0.3:
                    board.take(chance.randrange(many), board.newest())

    def test_by_names_asked_again_and_nothing_is_changed(self):
        board = Board((RING, RING), 3, held=((0, 1), None, (0, 1)))
        self.assertEqual(show_lot(lot=RING), show_lot(RING))
        self.assertEqual(show_tower(tower=(RING, RING)), show_tower((RING, RING)))
        self.assertEqual(show_row(row=((0, 1),)), "0.1")
        self.assertEqual(show_held(held=((0, 1), None)), "0.1 -")
        self.assertEqual(show_letter(letter=((0, 1), 2)), "0.1:2")
        self.assertEqual(show_board(board=board), show_board(board))
        self.assertEqual(board.marks(), ((0, 1), None, (0, 1)))


if __name__ == "__main__":
    unittest.main()
