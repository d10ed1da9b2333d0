"""Points 5 to 7: the judge, against a plain playing-through."""

import unittest

from everlater.judging import book, hope, lasts, reach, rounds, serves
from everlater.lots import rows
from tests.plain import (ENDLESS, RING, RING_TURNED, all_lots, apart, beside, line, no_pairs, plain_hopes, plain_rounds,
                         some_lots, squares, within, writings_left)

SLOTS = range(1, 6)
SMALL = [lot for many in range(4) for lot in all_lots(many)]
MIDDLE = [line(4), line(5), no_pairs(4), apart(RING, no_pairs(1)), beside(RING, no_pairs(1)), beside(no_pairs(1), RING),
          apart(RING, RING_TURNED), beside(RING, RING), beside(RING, line(2)), within(no_pairs(2), RING),
          within(line(2), RING), within(RING, line(2))]
MIDDLE += list(some_lots(4, 12, 51, 0.9)) + list(some_lots(5, 12, 52)) + list(some_lots(6, 8, 53, 1))
SERVING_THREE = [squares(7), squares(11), within(RING, RING), beside(squares(7), RING), beside(RING, squares(7)),
                 apart(squares(7), no_pairs(2))]


class RoundsAndBook(unittest.TestCase):
    def test_against_a_plain_playing_through(self):
        for lot in SMALL + MIDDLE + SERVING_THREE[:1]:
            for n in SLOTS:
                told, kept = plain_rounds(lot, n)
                self.assertEqual(rounds(lot, n), told, (lot, n))
                self.assertEqual(book(lot, n), kept, (lot, n))

    def test_lots_that_serve_three_slots(self):
        for lot in SERVING_THREE:
            for n in (1, 2, 3, 4):
                self.assertEqual((rounds(lot, n), book(lot, n)), plain_rounds(lot, n))

    def test_all_are_tuples(self):
        for lot in SMALL + MIDDLE:
            for n in SLOTS:
                for told in (rounds(lot, n), book(lot, n)) + rounds(lot, n):
                    self.assertIsInstance(told, tuple)
                    self.assertTrue(all(isinstance(row, tuple) for row in told))

    def test_one_slot(self):
        self.assertEqual(rounds(no_pairs(0), 1), (((),),))
        self.assertEqual(book(no_pairs(0), 1), ())
        for many in (1, 2, 24):
            for lot in (no_pairs(many), line(many)):
                self.assertEqual(rounds(lot, 1), ())
                self.assertEqual(book(lot, 1), ((),))

    def test_more_slots_than_any_row_fills(self):
        for n in (2, 3, 4, 5):
            self.assertEqual((rounds(no_pairs(0), n), book(no_pairs(0), n)), ((), ()))
        for n in (3, 4, 5):
            self.assertEqual((rounds(no_pairs(24), n), book(no_pairs(24), n)), ((), ()))
        self.assertEqual((rounds(RING, 4), book(RING, 4)), ((), ()))

    def test_the_ring(self):
        self.assertEqual(rounds(RING, 2), ())
        self.assertEqual(book(RING, 2), ((0,), (1,), (2,)))
        self.assertEqual(rounds(RING, 3), (((0, 1), (1, 2), (2, 0)),))
        self.assertEqual(book(RING, 3), ())

    def test_a_line_goes_from_its_end(self):
        self.assertEqual(rounds(line(4), 2), (((3,),), ((2,),), ((1,),), ((0,),)))
        self.assertEqual(rounds(line(4), 3), (((0, 3), (1, 3), (2, 3)), ((0, 2), (1, 2)), ((0, 1),)))
        self.assertEqual(rounds(line(24), 2), tuple(((mark,),) for mark in range(23, -1, -1)))
        told = rounds(line(24), 5)
        self.assertEqual([row for going in reversed(told) for row in going],
                         sorted(rows(line(24), 4), key=lambda row: (row[-1], row)))
        self.assertEqual(len(told), 21)

    def test_some_go_and_some_never_do(self):
        lot = beside(no_pairs(1), apart(RING, no_pairs(1)))
        self.assertEqual(rounds(lot, 2), (((4,),),))
        self.assertEqual(book(lot, 2), ((0,), (1,), (2,), (3,)))

    def test_each_row_goes_once_or_is_in_the_book(self):
        for lot in SMALL + MIDDLE + SERVING_THREE + list(some_lots(12, 5, 54)):
            for n in SLOTS:
                found = [row for going in rounds(lot, n) for row in going] + list(book(lot, n))
                self.assertEqual(sorted(found), list(rows(lot, n - 1)))
                self.assertNotIn((), rounds(lot, n))
                for told in rounds(lot, n) + (book(lot, n),):
                    self.assertEqual(list(told), sorted(told))


class ServesAndReach(unittest.TestCase):
    def test_serves_just_where_there_is_a_book(self):
        for lot in SMALL + MIDDLE + SERVING_THREE:
            for n in SLOTS if lot[0] < 8 else (1, 2, 3, 4):
                self.assertIs(serves(lot, n), plain_rounds(lot, n)[1] != ())

    def test_reach_is_the_greatest_that_it_serves(self):
        for lot in SMALL + MIDDLE + SERVING_THREE:
            self.assertEqual(reach(lot), max([0] + [n for n in SLOTS if serves(lot, n)]))

    def test_reaches_by_hand(self):
        reaches = [(no_pairs(0), 0), (no_pairs(1), 1), (no_pairs(24), 1), (line(24), 1), (RING, 2), (RING_TURNED, 2),
                   (beside(RING, RING), 2), (apart(RING, RING), 2), (squares(7), 3), (squares(11), 3),
                   (within(RING, RING), 3), (squares(19), 4), (squares(23), 4), (within(RING, squares(7)), 4),
                   (within(squares(7), RING), 4), (within(RING, line(8)), 2), (within(line(8), RING), 2)]
        for lot, expected in reaches:
            told = reach(lot)
            self.assertEqual(told, expected, lot)
            self.assertIs(type(told), int)
            for n in SLOTS:
                self.assertIs(serves(lot, n), n <= expected)

    def test_no_lot_of_24_marks_serves_five_slots(self):
        for lot in list(some_lots(24, 4, 55, 1)) + [within(RING, beside(squares(7), no_pairs(1)))]:
            self.assertIs(serves(lot, 5), False)


class HopeAndLasts(unittest.TestCase):
    def test_against_what_the_document_says_of_hopes(self):
        for lot in SMALL + MIDDLE:
            for n in SLOTS:
                expected = plain_hopes(lot, n)
                self.assertEqual({row: hope(lot, n, row) for row in expected}, expected, (lot, n))
                most = expected[()]
                self.assertEqual(lasts(lot, n), None if most is None else n + most)

    def test_lots_that_serve_three_slots(self):
        for lot in SERVING_THREE:
            for n in (2, 3, 4):
                expected = plain_hopes(lot, n)
                told = {row: hope(lot, n, row) for size in range(n) for row in rows(lot, size)}
                self.assertEqual(told, expected, (lot, n))

    def test_a_rows_hope_is_its_round(self):
        for lot in MIDDLE + [line(8), squares(7)]:
            for n in SLOTS:
                for number, going in enumerate(rounds(lot, n)):
                    for row in going:
                        self.assertEqual(hope(lot, n, row), number)
                for row in book(lot, n):
                    self.assertIsNone(hope(lot, n, row))

    def test_a_part_of_a_row_of_the_book_has_endless_hope(self):
        lot = beside(no_pairs(1), apart(within(RING, RING), line(2)))
        self.assertEqual([hope(lot, 3, (mark,)) for mark in range(12)], [None] * 10 + [0, -1])
        self.assertIsNone(hope(lot, 3, (0, 1)))
        self.assertEqual(hope(lot, 3, (0, 10)), 1)
        self.assertEqual(hope(lot, 3, (0, 11)), 0)
        self.assertEqual(hope(lot, 3, (10, 11)), 0)

    def test_where_no_mark_is_later(self):
        for n in SLOTS:
            self.assertEqual(hope(no_pairs(0), n, ()), 1 - n)
            self.assertEqual(lasts(no_pairs(0), n), 1)
        for n in (2, 3, 4, 5):
            self.assertEqual(hope(no_pairs(3), n, (1,)), 2 - n)
            self.assertEqual(hope(no_pairs(3), n, ()), 2 - n)
            self.assertEqual(lasts(no_pairs(3), n), 2)

    def test_by_hand(self):
        self.assertIsNone(lasts(no_pairs(1), 1))
        self.assertEqual([lasts(line(many), 2) for many in (0, 1, 2, 23, 24)], [1, 2, 3, 24, 25])
        self.assertEqual([lasts(line(24), n) for n in (3, 4, 5)], [25, 25, 25])
        self.assertEqual([lasts(line(3), n) for n in SLOTS], [None, 4, 4, 4, 4])
        self.assertEqual([lasts(RING, n) for n in SLOTS], [None, None, 3, 3, 3])
        self.assertEqual([lasts(squares(7), n) for n in (2, 3, 4)], [None, None, 4])
        self.assertEqual([hope(line(3), 3, row) for row in ((), (0,), (1,), (2,), (0, 1), (0, 2))], [1, 1, 0, -1, 1, 0])

    def test_lots_of_many_marks(self):
        self.assertIsNone(lasts(squares(23), 4))
        self.assertEqual(lasts(within(RING, line(8)), 3), 17)
        self.assertEqual(lasts(within(line(8), RING), 3), 17)
        for lot in some_lots(24, 3, 56, 1):
            for n in (3, 4, 5):
                told = lasts(lot, n)
                self.assertIs(told is None, serves(lot, n))
                self.assertEqual(told is None or told == n - 1 + len(rounds(lot, n)), True)


class PlayedThrough(unittest.TestCase):
    """Point 5 itself: slots that hold marks, and who gives against who chooses."""

    def compare(self, lot, n):
        alone = writings_left(lot, n, False)
        self.assertEqual(writings_left(lot, n, True), alone, (lot, n))
        self.assertIs(serves(lot, n), alone[()] == ENDLESS, (lot, n))
        self.assertEqual(lasts(lot, n), None if alone[()] == ENDLESS else alone[()], (lot, n))
        for size in range(n):
            for row in rows(lot, size):
                left = alone[tuple(sorted(row))]
                self.assertEqual(hope(lot, n, row), None if left == ENDLESS else left + size - n, (lot, n, row))

    def test_all_lots_of_up_to_three_marks(self):
        for lot in SMALL:
            for n in SLOTS:
                self.compare(lot, n)

    def test_lots_of_more_marks(self):
        for lot in MIDDLE:
            for n in SLOTS if lot[0] < 6 else (1, 2, 3, 4):
                self.compare(lot, n)

    def test_lots_that_serve_three_slots(self):
        for lot in (squares(7), within(RING, RING)):
            for n in (2, 3):
                self.compare(lot, n)
        self.compare(squares(7), 4)


class HandedIn(unittest.TestCase):
    def test_by_names(self):
        lot = line(4)
        for n in SLOTS:
            self.assertEqual(rounds(lot=lot, n=n), rounds(lot, n))
            self.assertEqual(book(n=n, lot=lot), book(lot, n))
            self.assertIs(serves(n=n, lot=lot), serves(lot, n))
            self.assertEqual(lasts(lot=lot, n=n), lasts(lot, n))
            self.assertEqual(hope(row=(), n=n, lot=lot), hope(lot, n, ()))
        self.assertEqual(hope(lot=lot, n=3, row=(0, 2)), 1)
        self.assertEqual(reach(lot=RING), 2)

    def test_asked_again_the_same_and_nothing_is_changed(self):
        for lot in MIDDLE + SERVING_THREE:
            before = repr(lot)
            for n in (1, 2, 3):
                for ask in (rounds, book, serves, lasts):
                    self.assertEqual(ask(lot, n), ask(lot, n))
                for row in rows(lot, n - 1):
                    self.assertEqual(hope(lot, n, row), hope(lot, n, row))
            self.assertEqual(reach(lot), reach(lot))
            self.assertEqual(repr(lot), before)

    def test_somewhat_beyond_the_limits_nothing_is_raised(self):
        asked = [(lot, n) for lot in (no_pairs(0), no_pairs(1), RING, line(8)) for n in (0, 6)]
        asked += [(lot, n) for lot in (no_pairs(26), line(26)) for n in (1, 3)]
        for lot, n in asked:
            for ask in (rounds, book, serves, lasts):
                ask(lot, n)
            hope(lot, n, ())
            for row in rows(lot, n)[:20]:
                hope(lot, n, row)
            reach(lot)


if __name__ == "__main__":
    unittest.main()
