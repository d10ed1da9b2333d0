"""Point 14: towers."""

import functools
import itertools
import random
import unittest

from everlater.judging import reach
from everlater.leading import ceiling
from everlater.lots import in_order, is_later, is_row
from everlater.towers import is_mark, is_row_in, is_tower, later_in, many_in, order_in, reach_in
from tests.plain import (RING, RING_TURNED, all_rows_in, apart, line, nested, no_pairs, plain_is_row_in,
                         plain_later_in, plain_marks, plain_reach_in, some_lots, squares, things, within)

TAILED = apart(RING, line(2))
SMALL = [(RING,), (line(3),), (no_pairs(1),), (no_pairs(2),), (squares(7),), (RING, RING), (RING, RING_TURNED),
         (RING, line(2)), (line(2), RING), (no_pairs(2), RING), (RING, no_pairs(2)), (TAILED, RING), (RING, TAILED),
         (RING, no_pairs(1), RING), (line(2), RING, line(2)), (no_pairs(2), line(2), RING), (RING, RING, line(2)),
         (no_pairs(1), no_pairs(1), no_pairs(1))]
SMALL += [tuple(some_lots(3, many, 141 + many, 0.8)) for many in (1, 2, 3)]
HIGH = [(RING,) * 40, (squares(7),) * 40, (squares(23),) * 40, (line(24),) * 40, (no_pairs(1),) * 40, (no_pairs(2),) * 39,
        (RING, line(3), squares(7), no_pairs(2)) * 10, tuple(some_lots(9, 40, 145))]


def drawn_mark(tower, chance):
    return tuple(chance.randrange(lot[0]) for lot in tower)


def like(mark, place, other):
    """The mark, from this place on as the other one."""
    return mark[:place] + other[place:]


class IsTower(unittest.TestCase):
    def same(self, told, thing):
        self.assertIs(is_tower(thing), told, repr(thing)[:200])
        self.assertIs(is_tower(thing=thing), told)

    def test_right_towers(self):
        for tower in SMALL + HIGH:
            self.same(True, tower)
        for many in range(1, 41):
            self.same(True, (RING,) * many)

    def test_none_and_forty_one(self):
        self.same(False, ())
        for many in (41, 42, 100):
            self.same(False, (RING,) * many)
            self.same(False, (no_pairs(1),) * many)

    def test_a_lot_without_marks(self):
        self.same(False, (no_pairs(0),))
        for at in range(40):
            self.same(False, (RING,) * at + (no_pairs(0),) + (RING,) * (39 - at))

    def test_a_lot_alone_and_lists(self):
        for thing in (RING, line(3), no_pairs(0), no_pairs(1), [RING], [RING, RING], (list(RING),), (RING, list(RING)),
                      ((3, list(RING[1])),), ((3, [list(pair) for pair in RING[1]]),), {0: RING}, (RING, None), (RING, ()),
                      (RING, 0), (RING, True), (RING, "ring"), ((RING,),), (RING, (RING,))):
            self.same(False, thing)

    def test_lots_that_are_none(self):
        for wrong in ((25, ()), (True, ()), (-1, ()), (2, ((0, 1), (1, 0))), (2, ((1, True),)), (3, ((2, 1), (1, 0))), (3,),
                      (3, (), ()), (2, ((0, 2),)), (2, ((0, 0),))):
            self.same(False, (wrong,))
            self.same(False, (RING, wrong))
            self.same(False, (wrong, RING))

    def test_things_of_any_kind(self):
        for thing in things():
            self.same(False, thing)
            self.same(False, (thing,))
            self.same(False, (RING, thing))

    def test_deeply_nested(self):
        for wrap in (lambda x: (x,), lambda x: [x], lambda x: {0: x}, lambda x: (RING, x), lambda x: (x, RING)):
            for start in (RING, (RING,), 0, ()):
                for depth in (2, 15, 26):
                    self.same(False, nested(start, wrap, depth))


class IsMark(unittest.TestCase):
    def test_all_marks(self):
        for tower in SMALL:
            for mark in plain_marks(tower):
                self.assertIs(is_mark(tower, mark), True)

    def test_marks_of_high_towers(self):
        chance = random.Random(146)
        for tower in HIGH:
            for time in range(10):
                mark = drawn_mark(tower, chance)
                self.assertIs(is_mark(tower, mark), True)
                self.assertIs(is_mark(tower, mark[1:]), False)
                self.assertIs(is_mark(tower, mark + (0,)), False)
                self.assertIs(is_mark(tower, list(mark)), False)

    def test_what_is_none(self):
        for tower in SMALL:
            mark = plain_marks(tower)[-1]
            for wrong in ((), mark[:-1], mark + (0,), mark + (None,), (mark,), list(mark), {0: mark}, mark[0], None):
                self.assertIs(is_mark(tower, wrong), False, (tower, wrong))
            for at, lot in enumerate(tower):
                for wrong in (lot[0], -1, 24, 10 ** 59, True, False, None, "0", (0,), [0], {}):
                    self.assertIs(is_mark(tower, mark[:at] + (wrong,) + mark[at + 1:]), False)

    def test_things_of_any_kind(self):
        for tower in SMALL[:8] + HIGH[:1]:
            for thing in things():
                self.assertIs(is_mark(tower, thing), False)
                if type(thing) is not int:
                    self.assertIs(is_mark(tower, (thing,)), False)
                    self.assertIs(is_mark(tower, (0, thing)), False)


class IsRowIn(unittest.TestCase):
    def test_all_tuples_of_few_marks(self):
        for tower in SMALL:
            marks = plain_marks(tower)
            for size in range(4 if len(marks) < 10 else 3):
                for thing in itertools.product(marks, repeat=size):
                    self.assertIs(is_row_in(tower, thing), plain_is_row_in(tower, thing))

    def test_rows_exchanged_twice_too_long(self):
        for tower in SMALL:
            for row in all_rows_in(tower, 4)[:300]:
                self.assertIs(is_row_in(tower, row), True)
                for order in itertools.permutations(row):
                    self.assertIs(is_row_in(tower, order), order == row)
                for mark in row:
                    self.assertIs(is_row_in(tower, row + (mark,)), False)
                    self.assertIs(is_row_in(tower, (mark,) + row), False)

    def test_long_rows(self):
        for many in (24, 40):
            tower = (line(2),) * many
            row = tuple((0,) * (many - at) + (1,) * at for at in range(many + 1))
            self.assertIs(is_row_in(tower, row), True)
            self.assertIs(is_row_in(tower, row[::-1]), False)
            self.assertIs(is_row_in(tower, row + row[:1]), False)

    def test_lists_truths_and_others(self):
        for tower in SMALL:
            mark = (0,) * len(tower)
            for wrong in ([mark], [list(mark)], (list(mark),), (mark, None), (mark, 0), (mark, ()), (mark, mark), mark,
                          (mark[:-1],), (mark + (0,),), ((False,) * len(tower),), ((True,) + mark[1:],), ((mark,),), {mark: 1},
                          (None,), ((),), "0", 0, None, True):
                self.assertIs(is_row_in(tower, wrong), False, (tower, wrong))
            self.assertIs(is_row_in(tower, ()), True)
            self.assertIs(is_row_in(tower, (mark,)), True)

    def test_things_of_any_kind(self):
        for tower in SMALL[:8] + HIGH[:1]:
            for thing in things():
                self.assertIs(is_row_in(tower, thing), False)
                self.assertIs(is_row_in(tower, ((0,) * len(tower), thing)), False)
                if type(thing) is not int or len(tower) > 1:
                    self.assertIs(is_row_in(tower, ((thing,),)), False)


class LaterIn(unittest.TestCase):
    def test_all_two_marks(self):
        for tower in SMALL:
            for x, y in itertools.product(plain_marks(tower), repeat=2):
                self.assertIs(later_in(tower, x, y), plain_later_in(tower, x, y))

    def test_high_towers(self):
        chance = random.Random(147)
        for tower in HIGH:
            for time in range(40):
                x, y = drawn_mark(tower, chance), drawn_mark(tower, chance)
                y = like(x, chance.randrange(len(tower) + 1), y)
                self.assertIs(later_in(tower, x, y), plain_later_in(tower, x, y))
                self.assertIs(later_in(tower, x, x), False)

    def test_the_first_unlike_place_tells_alone(self):
        tower = (no_pairs(2), line(2))
        self.assertIs(later_in(tower, (1, 1), (0, 0)), False)
        self.assertIs(later_in(tower, (0, 0), (1, 1)), False)
        self.assertIs(later_in(tower, (1, 1), (1, 0)), True)
        self.assertIs(later_in((RING, line(2)), (0, 0), (2, 1)), True)


class OrderIn(unittest.TestCase):
    def test_of_few_marks_in_any_order_alike_ones_too(self):
        for tower in SMALL:
            marks = plain_marks(tower)
            for size in range(4 if len(marks) < 8 else 3):
                for some in itertools.product(marks, repeat=size):
                    found = [row for row in itertools.permutations(set(some)) if plain_is_row_in(tower, row)]
                    self.assertEqual(order_in(tower, some), found[0] if found else None)

    def test_of_the_marks_of_rows(self):
        chance = random.Random(148)
        for tower in SMALL:
            for row in all_rows_in(tower, 3)[::7] + all_rows_in(tower, 4)[-20:]:
                marks = list(row) + [chance.choice(row) for time in range(3) if row]
                chance.shuffle(marks)
                told = order_in(tower, tuple(marks))
                self.assertEqual(told, row)
                self.assertIs(type(told), tuple)

    def test_of_none_and_of_one(self):
        for tower in SMALL + HIGH:
            mark = (0,) * len(tower)
            self.assertEqual(order_in(tower, ()), ())
            self.assertEqual(order_in(tower, (mark,)), (mark,))
            self.assertEqual(order_in(tower, (mark, mark, mark)), (mark,))

    def test_of_marks_that_make_no_row(self):
        for marks in itertools.permutations([(0, 0), (1, 0), (2, 1)]):
            self.assertIsNone(order_in((RING, line(2)), marks))
        self.assertIsNone(order_in((no_pairs(2), RING), ((0, 0), (1, 1))))
        self.assertIsNone(order_in((line(2), RING), ((0, 0), (1, 1), (1, 0), (1, 2))))

    def test_of_long_rows(self):
        chance = random.Random(149)
        tower = (line(2),) * 40
        row = tuple((0,) * (40 - at) + (1,) * at for at in range(41))
        marks = list(row) * 2
        chance.shuffle(marks)
        self.assertEqual(order_in(tower, tuple(marks)), row)


class ManyAndReach(unittest.TestCase):
    def test_many(self):
        for tower in SMALL:
            self.assertEqual(many_in(tower), len(plain_marks(tower)))
        expected = [3 ** 40, 7 ** 40, 23 ** 40, 24 ** 40, 1, 2 ** 39, 126 ** 10, 9 ** 40]
        self.assertEqual([many_in(tower) for tower in HIGH], expected)
        self.assertTrue(all(type(many_in(tower)) is int for tower in SMALL + HIGH))

    def test_reach(self):
        for tower in SMALL:
            self.assertEqual(reach_in(tower), plain_reach_in(tower))
            self.assertEqual(reach_in(tower), 1 + sum(reach(lot) - 1 for lot in tower))
        expected = [41, 81, 121, 1, 1, 1, 31, 1 + sum(reach(lot) - 1 for lot in HIGH[-1])]
        self.assertEqual([reach_in(tower) for tower in HIGH], expected)
        self.assertTrue(all(type(reach_in(tower)) is int for tower in SMALL + HIGH))

    def test_of_lots_that_serve_but_one_slot(self):
        for lot in (no_pairs(1), no_pairs(24), line(24)):
            for many in (1, 2, 40):
                self.assertEqual(reach_in((lot,) * many), 1)

    def test_a_tower_of_one_lot(self):
        for lot in [tower[0] for tower in SMALL]:
            self.assertEqual((many_in((lot,)), reach_in((lot,))), (lot[0], reach(lot)))

    def test_few_marks(self):
        for tower in SMALL + HIGH:
            self.assertLessEqual(reach_in(tower), ceiling(many_in(tower)))


class BesideTheLot(unittest.TestCase):
    """A tower of two or three lots, and the lot of the one within the other."""

    def test_marks_rows_and_reach_are_alike(self):
        lots = [RING, line(2), no_pairs(1), no_pairs(2), TAILED, line(4), squares(7), *some_lots(4, 4, 150)]
        for tower in [pair for pair in itertools.product(lots, repeat=2)] + [(RING, line(2), RING), (RING, RING, line(2))]:
            if many_in(tower) > 24:
                continue
            lot, marks = functools.reduce(within, tower), plain_marks(tower)
            number = {mark: at for at, mark in enumerate(marks)}
            for x, y in itertools.product(marks, repeat=2):
                self.assertIs(later_in(tower, x, y), is_later(lot, number[x], number[y]))
            for row in all_rows_in(tower, 3)[::5]:
                for thing in (row, row[::-1]):
                    numbers = tuple(number[mark] for mark in thing)
                    self.assertIs(is_row_in(tower, thing), is_row(lot, numbers))
                    self.assertEqual(tuple(number[mark] for mark in order_in(tower, thing)), in_order(lot, numbers))
            self.assertEqual(many_in(tower), lot[0])
            self.assertEqual(reach_in(tower), reach(lot))


class HandedIn(unittest.TestCase):
    def test_by_names(self):
        tower = (RING, line(2))
        self.assertIs(is_mark(thing=(2, 1), tower=tower), True)
        self.assertIs(is_row_in(thing=((2, 1),), tower=tower), True)
        self.assertIs(later_in(y=(2, 1), x=(0, 0), tower=tower), True)
        self.assertEqual(order_in(marks=((0, 0), (2, 1)), tower=tower), ((2, 1), (0, 0)))
        self.assertEqual((many_in(tower=tower), reach_in(tower=tower)), (6, 2))

    def test_asked_again_the_same_and_nothing_is_changed(self):
        for tower in SMALL + HIGH:
            before = repr(tower)
            marks = tuple((0,) * at + (tower[at][0] - 1,) + (0,) * (len(tower) - at - 1) for at in range(len(tower)))
            thing = [list(mark) for mark in marks] + [{"a": [0]}]
            text = repr(thing)
            for ask in (lambda: is_tower(tower), lambda: is_mark(tower, thing), lambda: is_row_in(tower, tuple(thing)),
                        lambda: later_in(tower, marks[0], marks[-1]), lambda: order_in(tower, marks), lambda: many_in(tower),
                        lambda: reach_in(tower), lambda: is_tower(thing)):
                self.assertEqual(ask(), ask())
            self.assertEqual((repr(tower), repr(thing)), (before, text))

    def test_somewhat_beyond_the_limits_nothing_is_raised(self):
        for tower in ((RING,) * 42, (no_pairs(26), line(26)), (no_pairs(0), RING)):
            mark = (0,) * len(tower)
            is_mark(tower, mark)
            is_row_in(tower, (mark,))
            later_in(tower, mark, mark)
            order_in(tower, (mark, mark))
            many_in(tower)
            reach_in(tower)


if __name__ == "__main__":
    unittest.main()
