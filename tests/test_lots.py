"""Point 4: lots and rows."""

import itertools
import math
import random
import unittest

from everlater.lots import above, in_order, is_later, is_lot, is_row, rows
from tests.plain import (RING, RING_TURNED, all_lots, apart, beside, line, nested, no_pairs, plain_above,
                         plain_in_order, plain_is_row, plain_rows, some_lots, squares, things, within)


SMALL = [lot for many in range(4) for lot in all_lots(many)]
MIDDLE = [line(4), line(5), no_pairs(4), beside(RING, RING), apart(RING, RING_TURNED), squares(7), apart(RING, line(2))]
MIDDLE += list(some_lots(4, 12, 41, 0.8)) + list(some_lots(5, 12, 42, 0.9)) + list(some_lots(6, 6, 43))


class IsLot(unittest.TestCase):
    def same(self, told, thing):
        self.assertIs(is_lot(thing), told, repr(thing)[:200])
        self.assertIs(is_lot(thing=thing), told)

    def test_right_lots(self):
        for lot in SMALL + MIDDLE:
            self.same(True, lot)
        for lot in (line(24), no_pairs(0), no_pairs(1), no_pairs(24), squares(23), within(RING, line(8)), RING):
            self.same(True, lot)
        self.same(True, (24, tuple((x, y) for x in range(24) for y in range(x + 1, 24))))
        self.same(True, (24, ((0, 23), (23, 1))))

    def test_things_of_any_kind(self):
        for thing in things():
            self.same(False, thing)

    def test_how_many_marks(self):
        for many in (25, 26, 1000, 10 ** 59, -1, -24, -10 ** 59, True, False, None, "3", (), (3,), [3], {}):
            self.same(False, (many, ()))
        self.same(False, line(25))
        self.same(False, (True, ()))
        self.same(False, (0, ((0, 1),)))
        self.same(False, (1, ((0, 0),)))

    def test_its_length(self):
        for thing in ((), (3,), ((),), (3, (), ()), (3, (), None), (3, ((1, 0),), ((1, 0),)), ((), 3)):
            self.same(False, thing)

    def test_lists_in_a_tuples_stead(self):
        for thing in ([3, ()], [3, ((1, 0),)], (3, []), (3, [(1, 0)]), (3, ([1, 0],)), (3, ((1, 0), [2, 0])),
                      (3, ([1, 0], (2, 0)))):
            self.same(False, thing)

    def test_pairs_of_wrong_kinds(self):
        for pairs in (None, 0, 1, True, "", "10", {}, {(1, 0): True}, (1, 0), ((1, 0), 1), ((1, 0), None), (None,),
                      ("10",), ("ab", "cd"), ((),), ((1,),), ((1, 0, 2),), ((1, 0), (2, 0, 1)), ({1: 0, 2: 0},)):
            self.same(False, (3, pairs))

    def test_truths_and_others_in_a_numbers_stead(self):
        for wrong in (True, False, None, "0", (), (0,), [0], {}, "a"):
            self.same(False, (3, ((2, wrong),)))
            self.same(False, (3, ((wrong, 2),)))
            self.same(False, (3, ((0, 2), (2, wrong))))
        self.same(False, (2, ((True, False),)))
        self.same(False, (2, ((True, 0),)))
        self.same(False, (2, ((1, False),)))

    def test_marks_beyond(self):
        for pair in ((0, 3), (3, 0), (0, -1), (-1, 0), (0, 24), (2, 10 ** 59), (-10 ** 59, 2)):
            self.same(False, (3, (pair,)))
        self.same(False, (24, ((24, 0),)))
        self.same(False, (24, ((0, 24),)))
        self.same(True, (24, ((23, 0),)))

    def test_later_than_itself(self):
        for mark in range(3):
            self.same(False, (3, ((mark, mark),)))
        self.same(False, (3, ((0, 1), (1, 1))))

    def test_pairs_not_rising(self):
        self.same(False, (3, ((1, 0), (1, 0))))
        self.same(False, (3, ((2, 1), (1, 0))))
        self.same(False, (3, ((2, 1), (2, 0))))
        self.same(False, (3, ((0, 2), (2, 1), (1, 0))))
        self.same(False, (3, ((0, 2), (1, 0), (1, 0), (2, 1))))
        for order in itertools.permutations(RING[1]):
            self.same(order == RING[1], (3, order))

    def test_both_ways_round(self):
        self.same(False, (2, ((0, 1), (1, 0))))
        self.same(False, (3, ((0, 1), (0, 2), (1, 2), (2, 0))))
        pairs = line(24)[1]
        self.same(False, (24, tuple(sorted(pairs + ((0, 23),)))))
        self.same(False, (24, tuple(sorted(pairs + ((22, 23),)))))

    def test_deeply_nested(self):
        for wrap in (lambda x: (x,), lambda x: (1, x), lambda x: (x, ()), lambda x: (1, (x,)), lambda x: [x]):
            for start in (0, (), (3, ()), RING):
                thing = nested(start, wrap, 15)
                self.same(False, thing)
                self.same(False, (3, thing))
                self.same(False, (3, ((1, thing),)))
                self.same(False, (thing, ()))


class IsLater(unittest.TestCase):
    def test_all_two_marks(self):
        for lot in SMALL + MIDDLE + [line(24), squares(23)]:
            for x, y in itertools.product(range(lot[0]), repeat=2):
                self.assertIs(is_later(lot, x, y), (x, y) in set(lot[1]))

    def test_lines_and_the_ring(self):
        for x, y in itertools.product(range(24), repeat=2):
            self.assertIs(is_later(line(24), x, y), x > y)
            self.assertIs(is_later(no_pairs(24), x, y), False)
        self.assertEqual([[is_later(RING, x, y) for y in range(3)] for x in range(3)],
                         [[False, False, True], [True, False, False], [False, True, False]])

    def test_later_is_not_led_on(self):
        lot = (3, ((1, 0), (2, 1)))
        self.assertIs(is_later(lot, 2, 0), False)
        self.assertIs(is_later(lot, 0, 2), False)

    def test_by_names(self):
        self.assertIs(is_later(lot=RING, x=0, y=2), True)
        self.assertIs(is_later(y=0, x=2, lot=RING), False)


class IsRow(unittest.TestCase):
    def same(self, told, lot, thing):
        self.assertIs(is_row(lot, thing), told, repr((lot, thing))[:200])
        self.assertIs(is_row(lot=lot, thing=thing), told)

    def test_none_and_one(self):
        for lot in SMALL + MIDDLE:
            self.same(True, lot, ())
            for mark in range(lot[0]):
                self.same(True, lot, (mark,))
            for mark in (lot[0], lot[0] + 1, -1, -lot[0] - 1, 10 ** 59):
                self.same(False, lot, (mark,))

    def test_all_tuples_of_marks(self):
        for lot in SMALL + MIDDLE[:4]:
            for size in range(5):
                for thing in itertools.product(range(lot[0]), repeat=size):
                    self.same(plain_is_row(lot, thing), lot, thing)

    def test_long_rows(self):
        self.same(True, line(24), tuple(range(24)))
        self.same(False, line(24), tuple(range(25)))
        self.same(False, line(24), tuple(range(24)) + (23,))
        self.same(False, line(24), (0,) + tuple(range(24)))
        for at in range(23):
            exchanged = list(range(24))
            exchanged[at], exchanged[at + 1] = at + 1, at
            self.same(False, line(24), tuple(exchanged))
        self.same(False, line(24), tuple(range(24)) * 500)

    def test_each_is_later_than_all_ahead_not_the_last_alone(self):
        self.same(False, RING, (0, 1, 2))
        self.same(False, (4, ((1, 0), (2, 1), (3, 1), (3, 2))), (0, 1, 2))
        self.same(True, (4, ((1, 0), (2, 1), (3, 1), (3, 2))), (1, 2, 3))

    def test_truths_lists_and_others_within(self):
        for thing in ((True,), (False,), (0, True), (False, 1), (0, 1, None), ("0",), ("a", 1), ((0,),), ([0],),
                      (0, [1]), ({},), (0, (1,)), ((),), (None,), (0, 1, True)):
            self.same(False, line(4), thing)
        for thing in ([], [0], [0, 1], {}, {0: 1}, "", "01", 0, 1, None, True, False):
            self.same(False, line(4), thing)

    def test_things_of_any_kind(self):
        for lot in (line(24), RING, no_pairs(0), no_pairs(2)):
            for thing in things():
                self.same(False, lot, thing)


class Rows(unittest.TestCase):
    def test_against_all_orders_of_all_choices(self):
        for lot in SMALL + MIDDLE:
            for size in range(6):
                told = rows(lot, size)
                self.assertEqual(told, plain_rows(lot, size))
                self.assertIsInstance(told, tuple)
                self.assertTrue(all(isinstance(row, tuple) for row in told))

    def test_none_and_one(self):
        for lot in SMALL + MIDDLE:
            self.assertEqual(rows(lot, 0), ((),))
            self.assertEqual(rows(lot, 1), tuple((mark,) for mark in range(lot[0])))
            self.assertEqual(rows(lot, 2), tuple(sorted((y, x) for x, y in lot[1])))

    def test_lines(self):
        for many in (0, 1, 2, 6, 11, 24):
            for size in range(6):
                told = rows(line(many), size)
                self.assertEqual(told, tuple(itertools.combinations(range(many), size)))
                self.assertEqual(len(told), math.comb(many, size))

    def test_a_line_turned_about(self):
        lot = (24, tuple((x, y) for x in range(24) for y in range(x + 1, 24)))
        for size in range(6):
            expected = sorted(itertools.combinations(range(23, -1, -1), size))
            self.assertEqual(rows(lot, size), tuple(expected))

    def test_the_ring(self):
        self.assertEqual(rows(RING, 2), ((0, 1), (1, 2), (2, 0)))
        self.assertEqual([rows(RING, size) for size in (3, 4, 5)], [(), (), ()])

    def test_by_names(self):
        self.assertEqual(rows(lot=RING, size=2), rows(RING, 2))
        self.assertEqual(rows(size=1, lot=RING), ((0,), (1,), (2,)))


class Above(unittest.TestCase):
    def test_of_none_all_marks(self):
        for lot in SMALL + MIDDLE + [line(24), no_pairs(24)]:
            self.assertEqual(above(lot, ()), tuple(range(lot[0])))

    def test_of_all_tuples_of_marks(self):
        for lot in SMALL + MIDDLE[:8]:
            for size in range(4):
                for marks in itertools.product(range(lot[0]), repeat=size):
                    told = above(lot, marks)
                    self.assertEqual(told, plain_above(lot, marks))
                    self.assertIsInstance(told, tuple)

    def test_alike_ones_and_any_order(self):
        self.assertEqual(above(RING, (0, 0, 0)), (1,))
        self.assertEqual(above(RING, (0, 1)), ())
        self.assertEqual(above(line(24), (5, 20, 5, 3)), (21, 22, 23))
        self.assertEqual(above(line(24), (20, 3, 5)), (21, 22, 23))
        self.assertEqual(above(line(24), (23,)), ())

    def test_by_names(self):
        self.assertEqual(above(lot=RING, marks=(2,)), (0,))
        self.assertEqual(above(marks=(1,), lot=RING), (2,))


class InOrder(unittest.TestCase):
    def test_of_all_tuples_of_marks(self):
        for lot in SMALL + MIDDLE[:8]:
            for size in range(5):
                for marks in itertools.product(range(lot[0]), repeat=size):
                    self.assertEqual(in_order(lot, marks), plain_in_order(lot, marks))

    def test_of_none_and_alike_ones(self):
        for lot in SMALL:
            self.assertEqual(in_order(lot, ()), ())
        self.assertEqual(in_order(RING, (1, 1, 1)), (1,))
        self.assertEqual(in_order(RING, (0, 2, 0, 2, 2)), (2, 0))
        self.assertIsInstance(in_order(RING, (0, 2)), tuple)

    def test_of_marks_that_make_no_row(self):
        for marks in itertools.permutations(range(3)):
            self.assertIsNone(in_order(RING, marks))
            self.assertIsNone(in_order(RING_TURNED, marks + (0,)))
        self.assertIsNone(in_order(no_pairs(2), (0, 1)))
        self.assertIsNone(in_order((3, ((1, 0), (2, 1))), (0, 1, 2)))
        self.assertIsNone(in_order(beside(RING, RING), (0, 1, 2, 3, 4)))
        self.assertIsNone(in_order(beside(line(10), RING), tuple(range(13))))

    def test_of_the_marks_of_rows_in_any_order(self):
        chance = random.Random(44)
        for lot in MIDDLE + [line(24), squares(11), squares(23), within(RING, squares(7))]:
            found = rows(lot, 4)
            for row in [chance.choice(found) for time in range(20)] if found else []:
                marks = list(row) + [chance.choice(row) for time in range(3)]
                chance.shuffle(marks)
                self.assertEqual(in_order(lot, tuple(marks)), row)

    def test_of_a_long_line(self):
        marks = list(range(24)) * 2
        random.Random(45).shuffle(marks)
        self.assertEqual(in_order(line(24), tuple(marks)), tuple(range(24)))

    def test_by_names(self):
        self.assertEqual(in_order(lot=RING, marks=(0, 2)), (2, 0))
        self.assertEqual(in_order(marks=(0, 1, 0), lot=RING), (0, 1))


class HandedIn(unittest.TestCase):
    def test_asked_again_the_same_and_nothing_is_changed(self):
        thing = [3, [(1, 0)], {"a": [()]}]
        before = repr(thing)
        for time in range(2):
            self.assertIs(is_lot(thing), False)
            self.assertIs(is_row(RING, thing), False)
        self.assertEqual(repr(thing), before)
        for lot in MIDDLE:
            before = repr(lot)
            marks = tuple(range(lot[0])) * 2
            for ask in (lambda: rows(lot, 3), lambda: above(lot, marks[:1]), lambda: in_order(lot, marks)):
                self.assertEqual(ask(), ask())
            self.assertEqual(repr(lot), before)
            self.assertEqual(marks, tuple(range(lot[0])) * 2)

    def test_what_was_told_may_be_handed_in_again(self):
        for lot in MIDDLE:
            for row in rows(lot, 2):
                self.assertIs(is_row(lot, row), True)
                self.assertEqual(in_order(lot, row), row)
                for mark in above(lot, row):
                    self.assertIn(row + (mark,), rows(lot, 3))


if __name__ == "__main__":
    unittest.main()
