"""Point 13: leadings and the ceiling; the whole's (c) and (d) of them."""

import itertools
import random
import unittest

from everlater.judging import reach
from everlater.leading import ceiling, is_leading
from tests.plain import (RING, RING_TURNED, all_lots, apart, beside, line, nested, no_pairs, part, plain_is_leading,
                         renamed, some_lots, spoiled, squares, things, within)

SMALL = [lot for many in range(4) for lot in all_lots(many)]
MIDDLE = [line(4), no_pairs(4), beside(RING, RING), apart(RING, RING_TURNED), squares(7), within(RING, line(2))]
MIDDLE += list(some_lots(4, 4, 121, 0.6)) + list(some_lots(5, 3, 122))


class IsLeading(unittest.TestCase):
    def test_all_tuples_of_small_lots(self):
        for lot, other in itertools.product(SMALL, repeat=2):
            for size in range(5):
                for thing in itertools.product(range(other[0]), repeat=size):
                    expected = size == lot[0] and plain_is_leading(lot, other, thing)
                    self.assertIs(is_leading(lot, other, thing), expected, (lot, other, thing))

    def test_tuples_into_greater_lots(self):
        for lot, other in itertools.product([RING, line(2), line(3), no_pairs(2), (3, ((0, 1), (2, 1)))], MIDDLE):
            for thing in itertools.product(range(other[0]), repeat=lot[0]):
                self.assertIs(is_leading(lot, other, thing), plain_is_leading(lot, other, thing))

    def test_greater_lots(self):
        chance = random.Random(123)
        seen = {True: 0, False: 0}
        for lot in MIDDLE + [squares(23), line(24), within(RING, squares(7))]:
            for time in range(20):
                names = list(range(lot[0]))
                chance.shuffle(names)
                other = renamed(lot, names)
                self.assertIs(is_leading(lot, other, tuple(names)), True)
                at = chance.randrange(lot[0])
                names[at] = chance.randrange(lot[0])
                told = is_leading(lot, other, tuple(names))
                self.assertIs(told, plain_is_leading(lot, other, names))
                seen[told] += 1
        self.assertGreater(min(seen.values()), 10)

    def test_lots_without_marks(self):
        for other in SMALL + MIDDLE:
            self.assertIs(is_leading(no_pairs(0), other, ()), True)
            self.assertIs(is_leading(no_pairs(0), other, (0,)), False)
            self.assertIs(is_leading(no_pairs(1), no_pairs(0), ()), False)
            for thing in ((0,) * other[0], ()):
                self.assertIs(is_leading(other, no_pairs(0), thing), other[0] == 0)

    def test_marks_of_which_neither_is_later_may_be_led_anywhere(self):
        for thing in itertools.product(range(3), repeat=3):
            self.assertIs(is_leading(no_pairs(3), RING, thing), True)
        self.assertIs(is_leading(within(RING, no_pairs(2)), RING, (0, 0, 1, 1, 2, 2)), True)
        self.assertIs(is_leading(within(RING, line(2)), RING, (0, 0, 1, 1, 2, 2)), False)

    def test_later_must_be_led_so_not_the_other_way_round(self):
        self.assertIs(is_leading(line(2), line(2), (0, 1)), True)
        self.assertIs(is_leading(line(2), line(2), (1, 0)), False)
        self.assertIs(is_leading(line(2), line(2), (1, 1)), False)
        self.assertIs(is_leading(line(2), no_pairs(2), (0, 1)), False)
        self.assertIs(is_leading(RING, RING_TURNED, (0, 1, 2)), False)
        self.assertIs(is_leading(RING, RING_TURNED, (2, 1, 0)), True)

    def test_one_too_few_one_too_many(self):
        for lot in SMALL + MIDDLE:
            whole = tuple(range(lot[0]))
            self.assertIs(is_leading(lot, lot, whole), True)
            if whole:
                self.assertIs(is_leading(lot, lot, whole[:-1]), False)
                self.assertIs(is_leading(lot, lot, whole[1:]), False)
                self.assertIs(is_leading(lot, lot, whole + (0,)), False)

    def test_lists_truths_and_marks_that_are_none(self):
        for lot in [lot for lot in SMALL + MIDDLE if lot[0]]:
            for thing in spoiled(tuple(range(lot[0]))):
                self.assertIs(is_leading(lot, lot, thing), False, (lot, thing))
        for thing in ((True,), (False,), (2,), (-1,), (None,), ("0",), ((),), ([],), [0], {0: 0}):
            self.assertIs(is_leading(no_pairs(1), line(2), thing), False)

    def test_things_of_any_kind(self):
        for lot, other in itertools.product((no_pairs(0), no_pairs(1), RING, line(2), line(24)), repeat=2):
            for thing in things() + [nested((0, 1), lambda x: (x, x), 12)]:
                self.assertIs(is_leading(lot, other, thing), False)
                if type(thing) is not int:
                    self.assertIs(is_leading(lot, other, (thing,)), False)
                    self.assertIs(is_leading(lot, other, (0, thing)), False)

    def test_the_others_reach_is_no_lesser(self):
        lots = SMALL + [line(4), beside(RING, no_pairs(1)), apart(RING, line(2)), *some_lots(4, 6, 124)]
        reaches = {lot: reach(lot) for lot in lots}
        for lot, other in itertools.product(lots, repeat=2):
            if reaches[lot] > reaches[other]:
                for thing in itertools.product(range(other[0]), repeat=lot[0]):
                    self.assertIs(is_leading(lot, other, thing), False)

    def test_parts_lots_of_fewer_pairs_and_lots_within(self):
        chance = random.Random(125)
        for lot in MIDDLE + [squares(11)]:
            marks = tuple(sorted(chance.sample(range(lot[0]), lot[0] // 2)))
            self.assertIs(is_leading(part(lot, marks), lot, marks), True)
            fewer = (lot[0], tuple(pair for pair in lot[1] if chance.random() < 0.7))
            self.assertIs(is_leading(fewer, lot, tuple(range(lot[0]))), True)
            self.assertLessEqual(reach(fewer), reach(lot))
            self.assertIs(is_leading(lot, within(lot, line(2)), tuple(range(0, 2 * lot[0], 2))), True)


class Ceiling(unittest.TestCase):
    def test_by_hand(self):
        for many, expected in {0: 0, 1: 1, 2: 1, 3: 2, 6: 2, 7: 3, 8: 3, 14: 3, 15: 4, 24: 4, 30: 4, 31: 5, 62: 5, 63: 6}.items():
            self.assertEqual(ceiling(many), expected, many)
            self.assertIs(type(ceiling(many)), int)

    def test_all_small_numbers(self):
        for many in range(3000):
            self.assertEqual(ceiling(many), max(n for n in range(20) if 2 ** n - 1 <= many))

    def test_numbers_of_many_figures(self):
        for n in [10, 52, 53, 54, 63, 64, 65, 199, 200, 1000, 1024, 3000]:
            least = 2 ** n - 1
            self.assertEqual([ceiling(least - 1), ceiling(least), ceiling(least + 1)], [n - 1, n, n])
        for many in (10 ** 59, 10 ** 300, 10 ** 999 - 1, 7 ** 500):
            told = ceiling(many)
            self.assertLessEqual(2 ** told - 1, many)
            self.assertGreater(2 ** (told + 1) - 1, many)

    def test_no_lot_of_fewer_marks_serves_more_slots(self):
        lots = SMALL + MIDDLE + [line(24), squares(11), squares(19), squares(23), within(RING, squares(7)), within(RING, RING)]
        for lot in lots + list(all_lots(5, always=True))[::7] + list(some_lots(14, 4, 126, 1)) + list(some_lots(24, 2, 127, 1)):
            self.assertLessEqual(reach(lot), ceiling(lot[0]))
        self.assertEqual([ceiling(3), ceiling(7)], [reach(RING), reach(squares(7))])


class HandedIn(unittest.TestCase):
    def test_by_names(self):
        self.assertIs(is_leading(lot=line(2), other=line(3), thing=(0, 2)), True)
        self.assertIs(is_leading(thing=(0, 2), other=line(2), lot=line(3)), False)
        self.assertEqual(ceiling(many=7), 3)

    def test_asked_again_the_same_and_nothing_is_changed(self):
        for lot in MIDDLE:
            before = repr(lot)
            thing = list(range(lot[0]))
            for time in range(2):
                self.assertIs(is_leading(lot, lot, thing), False)
                self.assertIs(is_leading(lot, lot, tuple(thing)), True)
            self.assertEqual(thing, list(range(lot[0])))
            self.assertEqual(repr(lot), before)


if __name__ == "__main__":
    unittest.main()
