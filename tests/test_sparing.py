"""Point 13: parts that do without one mark more."""

import unittest

from everlater.errors import Fails, MarkError
from everlater.judging import reach, serves
from everlater.making import part
from everlater.sparing import spare
from tests.plain import (RING, RING_TURNED, all_lots, apart, beside, line, no_pairs, plain_spare, some_lots, squares,
                         with_more, within)

SLOTS = range(1, 6)
SMALL = [lot for many in range(5) for lot in all_lots(many, always=many == 4)]
MIDDLE = [line(6), no_pairs(5), beside(RING, RING), beside(line(2), RING), beside(RING, line(2)), apart(RING, RING_TURNED),
          within(RING, line(2)), within(line(2), RING), within(RING, RING), squares(7), beside(squares(7), RING),
          beside(RING, squares(7)), apart(squares(7), line(2)), apart(line(2), squares(7))]
MIDDLE += list(with_more(RING, 3, 6, 131)) + list(with_more(squares(7), 2, 4, 132)) + list(some_lots(6, 6, 133, 1))
GREATER = [(squares(11), 2), (squares(11), 3), (squares(19), 3), (squares(19), 4), (beside(within(RING, RING), RING), 3),
           (within(RING, beside(line(1), RING)), 3), (within(apart(RING, line(1)), RING), 3), (line(24), 1),
           (next(with_more(squares(7), 6, 1, 134)), 3), (next(some_lots(16, 1, 135, 1)), 3)]


def without_each(marks):
    return [marks[:at] + marks[at + 1:] for at in range(len(marks))]


class Spare(unittest.TestCase):
    def refused(self, lot, n):
        with self.assertRaises(Fails) as caught:
            spare(lot, n)
        self.assertIs(type(caught.exception), Fails)

    def look(self, lot, n):
        told = spare(lot, n)
        self.assertIs(type(told), tuple)
        self.assertEqual(list(told), sorted(set(told)))
        self.assertIs(serves(part(lot, told), n), True)
        for fewer in without_each(told):
            self.assertIs(serves(part(lot, fewer), n), False)
        return told

    def test_against_a_plain_going_down(self):
        for lot in SMALL + MIDDLE:
            for n in SLOTS:
                if serves(lot, n):
                    self.assertEqual(self.look(lot, n), plain_spare(lot, n), (lot, n))
                else:
                    self.refused(lot, n)

    def test_greater_lots(self):
        for lot, n in GREATER:
            self.assertEqual(self.look(lot, n), plain_spare(lot, n), (lot, n))

    def test_the_greatest_lots(self):
        for lot, n in [(squares(23), 4), (within(RING, squares(7)), 4), (within(squares(7), RING), 4),
                       (next(with_more(within(RING, squares(7)), 3, 1, 136)), 4)]:
            self.assertGreaterEqual(len(self.look(lot, n)), 15)

    def test_by_hand(self):
        for lot in (no_pairs(1), no_pairs(24), line(24), RING, squares(23)):
            self.assertEqual(spare(lot, 1), (0,))
        self.assertEqual(spare(RING, 2), (0, 1, 2))
        self.assertEqual(spare(beside(RING, RING), 2), (0, 1, 2))
        self.assertEqual(spare(beside(line(2), RING), 2), (2, 3, 4))
        self.assertEqual(spare(squares(7), 3), tuple(range(7)))
        self.assertEqual(spare(squares(7), 2), (0, 1, 3))
        self.assertEqual(spare(beside(squares(7), squares(7)), 3), tuple(range(7)))
        self.assertEqual(spare(beside(RING, squares(7)), 3), tuple(range(3, 10)))
        self.assertEqual(spare(within(line(2), RING), 2), (0, 1, 2))

    def test_fails(self):
        for n in SLOTS:
            self.refused(no_pairs(0), n)
        for n in (2, 3, 4, 5):
            self.refused(line(24), n)
            self.refused(no_pairs(24), n)
        self.refused(RING, 3)
        self.refused(squares(7), 4)
        self.refused(squares(23), 5)
        for lot in MIDDLE:
            for n in SLOTS[reach(lot):]:
                self.refused(lot, n)


class HandedIn(unittest.TestCase):
    def test_by_names(self):
        self.assertEqual(spare(n=2, lot=squares(7)), spare(squares(7), 2))
        with self.assertRaises(Fails):
            spare(lot=RING, n=3)

    def test_asked_again_the_same_and_nothing_is_changed(self):
        for lot in MIDDLE:
            before = repr(lot)
            for n in (1, 2, 3):
                try:
                    self.assertEqual(spare(lot, n), spare(lot, n))
                except MarkError:
                    self.assertIs(serves(lot, n), False)
            self.assertEqual(repr(lot), before)

    def test_somewhat_beyond_the_limits_nothing_but_fails_is_raised(self):
        for lot, n in [(RING, 0), (RING, 6), (no_pairs(26), 1), (line(26), 2)]:
            try:
                spare(lot, n)
            except Fails:
                pass


if __name__ == "__main__":
    unittest.main()
