"""Point 12: lots put together, and the whole's (d) of them."""

import itertools
import random
import unittest

from everlater.errors import TooMany
from everlater.judging import reach
from everlater.lots import is_later, is_lot
from everlater.making import beside, line, part, ring, squares, turned, within
from tests import plain
from tests.plain import RING, RING_TURNED, all_lots, apart, no_pairs, some_lots

SMALL = [lot for many in range(4) for lot in all_lots(many)]
MIDDLE = [plain.line(4), no_pairs(4), plain.beside(RING, RING), apart(RING, RING_TURNED), plain.squares(7)]
MIDDLE += list(some_lots(4, 6, 111)) + list(some_lots(5, 4, 112)) + list(some_lots(8, 4, 113))
PUT_TOGETHER = [no_pairs(0), no_pairs(1), no_pairs(2), plain.line(2), plain.line(3), RING, RING_TURNED, plain.squares(7),
                plain.beside(RING, no_pairs(1)), apart(RING, no_pairs(2)), plain.line(12), no_pairs(8)]


class Made(unittest.TestCase):
    def same(self, told, expected):
        self.assertEqual(told, expected)
        self.assertIs(is_lot(told), True)


class TheFirst(Made):
    def test_ring(self):
        self.same(ring(), (3, ((0, 2), (1, 0), (2, 1))))
        self.assertEqual([is_later(ring(), *two) for two in ((1, 0), (2, 1), (0, 2), (0, 1), (1, 2), (2, 0))],
                         [True] * 3 + [False] * 3)

    def test_line(self):
        for many in range(25):
            self.same(line(many), (many, tuple(sorted((x, y) for y, x in itertools.combinations(range(many), 2)))))
        self.assertEqual([line(0), line(1), line(2)], [(0, ()), (1, ()), (2, ((1, 0),))])

    def test_squares(self):
        for p in (3, 7, 11, 19, 23):
            rests = {number * number % p for number in range(1, p)}
            pairs = [(x, y) for x in range(p) for y in range(p) if (x - y) % p in rests]
            self.same(squares(p), (p, tuple(sorted(pairs))))
            self.assertEqual(len(pairs), p * (p - 1) // 2)
        self.assertEqual(squares(3), ring())
        self.assertEqual([y for x, y in squares(7)[1] if x == 0], [3, 5, 6])

    def test_reaches(self):
        self.assertEqual([reach(squares(p)) for p in (3, 7, 11, 19, 23)], [2, 3, 3, 4, 4])
        self.assertEqual([reach(line(many)) for many in (0, 1, 2, 24)], [0, 1, 1, 1])
        self.assertEqual(reach(ring()), 2)

    def test_somewhat_beyond_the_limits_nothing_is_raised(self):
        self.assertEqual(line(26), plain.line(26))
        squares(31)
        squares(1)


class Turned(Made):
    def test_each_pair_the_other_way_round(self):
        for lot in SMALL + MIDDLE + [line(24), squares(23)]:
            told = turned(lot)
            self.same(told, (lot[0], tuple(sorted((y, x) for x, y in lot[1]))))
            self.assertEqual(turned(told), lot)
            for x, y in itertools.product(range(lot[0]), repeat=2):
                self.assertIs(is_later(told, x, y), is_later(lot, y, x))

    def test_by_hand(self):
        self.assertEqual(turned(ring()), RING_TURNED)
        self.assertEqual(turned(line(3)), (3, ((0, 1), (0, 2), (1, 2))))
        self.assertEqual(turned((0, ())), (0, ()))


class Part(Made):
    def test_all_parts_of_small_lots(self):
        for lot in SMALL + MIDDLE[:5]:
            for size in range(lot[0] + 1):
                for marks in itertools.combinations(range(lot[0]), size):
                    told = part(lot, marks)
                    self.same(told, plain.part(lot, marks))
                    for x, y in itertools.product(range(size), repeat=2):
                        self.assertIs(is_later(told, x, y), is_later(lot, marks[x], marks[y]))

    def test_none_and_all(self):
        for lot in SMALL + MIDDLE + [line(24), squares(23)]:
            self.assertEqual(part(lot, ()), (0, ()))
            self.assertEqual(part(lot, tuple(range(lot[0]))), lot)

    def test_by_hand(self):
        self.assertEqual(part(ring(), (0, 2)), (2, ((0, 1),)))
        self.assertEqual(part(ring(), (0, 1)), (2, ((1, 0),)))
        self.assertEqual(part(line(24), (3, 9, 23)), line(3))

    def test_a_part_of_a_part(self):
        chance = random.Random(114)
        for lot in MIDDLE + [squares(23), line(24)]:
            for time in range(5):
                first = tuple(sorted(chance.sample(range(lot[0]), chance.randrange(lot[0] + 1))))
                then = tuple(sorted(chance.sample(range(len(first)), chance.randrange(len(first) + 1))))
                self.same(part(part(lot, first), then), part(lot, tuple(first[at] for at in then)))

    def test_its_reach_is_never_greater(self):
        chance = random.Random(115)
        for lot in MIDDLE + [squares(11), squares(19), plain.within(RING, plain.squares(7))]:
            for time in range(6):
                marks = tuple(sorted(chance.sample(range(lot[0]), chance.randrange(lot[0] + 1))))
                self.assertLessEqual(reach(part(lot, marks)), reach(lot))


class BesideAndWithin(Made):
    def refused(self, put, lot, other, many):
        with self.assertRaises(TooMany) as caught:
            put(lot, other)
        self.assertIs(type(caught.exception), TooMany)
        self.assertEqual(caught.exception.many, many)

    def test_beside_pair_by_pair(self):
        for lot, other in itertools.product(SMALL[::3] + MIDDLE, repeat=2):
            told, many = beside(lot, other), lot[0]
            self.same(told, plain.beside(lot, other))
            for x, y in itertools.product(range(told[0]), repeat=2):
                if x < many and y < many:
                    self.assertIs(is_later(told, x, y), is_later(lot, x, y))
                elif x >= many and y >= many:
                    self.assertIs(is_later(told, x, y), is_later(other, x - many, y - many))
                else:
                    self.assertIs(is_later(told, x, y), x > y)

    def test_within_pair_by_pair(self):
        for lot, other in itertools.product(SMALL[::3] + MIDDLE, repeat=2):
            if lot[0] * other[0] > 24:
                self.refused(within, lot, other, lot[0] * other[0])
                continue
            told = within(lot, other)
            self.same(told, plain.within(lot, other))
            self.assertEqual(told[0], lot[0] * other[0])
            marks = [(a, b) for a in range(lot[0]) for b in range(other[0])]
            for (x, (a, b)), (y, (c, d)) in itertools.product(enumerate(marks), repeat=2):
                expected = is_later(lot, a, c) if a != c else is_later(other, b, d)
                self.assertIs(is_later(told, x, y), expected)

    def test_by_hand(self):
        self.assertEqual(beside(line(2), line(3)), line(5))
        self.assertEqual(within(line(4), line(6)), line(24))
        self.assertEqual(beside((1, ()), (2, ())), (3, ((1, 0), (2, 0))))
        self.assertEqual(within((2, ()), (2, ((1, 0),))), (4, ((1, 0), (3, 2))))
        self.assertEqual(within((2, ((1, 0),)), (2, ())), (4, ((2, 0), (2, 1), (3, 0), (3, 1))))

    def test_with_lots_of_no_marks_and_of_one(self):
        for lot in SMALL + MIDDLE + [line(24), squares(23)]:
            self.assertEqual(beside(lot, (0, ())), lot)
            self.assertEqual(beside((0, ()), lot), lot)
            self.assertEqual(within(lot, (0, ())), (0, ()))
            self.assertEqual(within((0, ()), lot), (0, ()))
            self.assertEqual(within(lot, (1, ())), lot)
            self.assertEqual(within((1, ()), lot), lot)

    def test_just_24_and_more(self):
        for first in range(25):
            self.assertEqual(beside(line(first), line(24 - first)), line(24))
            self.refused(beside, line(first), line(25 - first) if first else plain.line(25), 25)
        for first, second in ((1, 24), (2, 12), (3, 8), (4, 6), (6, 4), (8, 3), (12, 2), (24, 1)):
            self.assertEqual(within(line(first), line(second)), line(24))
        self.refused(within, line(5), line(5), 25)
        self.refused(within, squares(7), squares(7), 49)
        self.refused(within, line(24), line(24), 576)
        self.refused(within, line(2), line(13), 26)
        self.refused(beside, line(24), line(24), 48)
        self.refused(beside, squares(23), line(2), 25)
        self.refused(beside, line(2), squares(23), 25)

    def test_three_put_together_by_either_two_first(self):
        small = [no_pairs(0), no_pairs(1), no_pairs(2), plain.line(2), RING, RING_TURNED, plain.line(3), *some_lots(4, 2, 116)]
        for one, two, three in itertools.product(small, repeat=3):
            self.assertEqual(beside(beside(one, two), three), beside(one, beside(two, three)))
            if one[0] * two[0] * three[0] <= 24 and one[0] * two[0] <= 24 and two[0] * three[0] <= 24:
                self.assertEqual(within(within(one, two), three), within(one, within(two, three)))

    def test_reaches(self):
        for lot, other in itertools.product(PUT_TOGETHER + list(some_lots(4, 4, 117)), repeat=2):
            if lot[0] + other[0] <= 24:
                self.assertEqual(reach(beside(lot, other)), max(reach(lot), reach(other)))
            if 0 < lot[0] * other[0] <= 24:
                self.assertEqual(reach(within(lot, other)), reach(lot) + reach(other) - 1)


class HandedIn(unittest.TestCase):
    def test_by_names(self):
        self.assertEqual(line(many=5), line(5))
        self.assertEqual(squares(p=7), squares(7))
        self.assertEqual(turned(lot=RING), turned(RING))
        self.assertEqual(part(marks=(1, 2), lot=RING), part(RING, (1, 2)))
        self.assertEqual(beside(other=line(2), lot=RING), beside(RING, line(2)))
        self.assertEqual(within(other=line(2), lot=RING), within(RING, line(2)))
        self.assertEqual(within(lot=line(2), other=RING), within(line(2), RING))

    def test_asked_again_the_same_and_nothing_is_changed(self):
        for lot in MIDDLE:
            before = repr(lot)
            marks = tuple(range(0, lot[0], 2))
            for ask in (lambda: turned(lot), lambda: part(lot, marks), lambda: beside(lot, lot), lambda: within(lot, RING)):
                self.assertEqual(ask(), ask())
            self.assertEqual(repr(lot), before)
            self.assertEqual(marks, tuple(range(0, lot[0], 2)))
        self.assertEqual((ring(), line(9), squares(11)), (ring(), line(9), squares(11)))


if __name__ == "__main__":
    unittest.main()
