"""Point 3, the whole: (a), (c) and (d), as far as lots and the judge tell of them."""

import itertools
import random
import unittest

from everlater.judging import book, hope, lasts, reach, rounds, serves
from everlater.lots import above, in_order, is_later, rows
from tests.plain import (ENDLESS, RING, all_lots, apart, beside, line, no_pairs, part, renamed, some_lots, squares,
                         within)

SERVED = [(no_pairs(2), 1), (RING, 2), (beside(RING, line(2)), 2), (squares(7), 3), (within(RING, RING), 3),
          (apart(squares(7), RING), 3), (squares(11), 2)]
UNSERVED = [(no_pairs(0), 1), (no_pairs(2), 2), (line(5), 2), (line(5), 3), (RING, 3), (RING, 5), (squares(7), 4),
            (within(RING, line(2)), 3), (within(RING, RING), 4), (beside(RING, line(3)), 3)]
UNSERVED += [(lot, n) for lot in some_lots(6, 4, 61) for n in (3, 4)]


def others_of(held, slot):
    return tuple(mark for at, mark in enumerate(held) if at != slot and mark is not None)


def counted(told):
    return ENDLESS if told is None else told


class Hopes:
    """What the program tells of the hopes of a lot's rows, asked once each."""

    def __init__(self, lot, n):
        self.lot, self.n = lot, n
        self.told = {row: counted(hope(lot, n, row)) for size in range(n) for row in rows(lot, size)}

    def left_by(self, row, mark):
        """The least hope that a mark leaves, given behind the row."""
        if len(row) < self.n - 1:
            return self.told[row + (mark,)]
        left = [self.told[row[:at] + row[at + 1:] + (mark,)] for at in range(len(row))]
        return min(left, default=ENDLESS)

    def mark_held_out_longest(self, row):
        high = above(self.lot, row)
        return max(high, key=lambda mark: self.left_by(row, mark)) if high else None

    def slot_that_hurts_most(self, held):
        if None in held:
            return held.index(None)
        return min(range(len(held)), key=lambda slot: self.told[in_order(self.lot, others_of(held, slot))])


def deed_between(held, chance):
    """A slot takes what another one holds, or holds nothing."""
    slot, other = chance.randrange(len(held)), chance.randrange(len(held))
    held[slot] = held[other] if chance.random() < 0.7 else None


class Judged(unittest.TestCase):
    def test_a_row_of_the_book_always_has_a_mark_that_keeps_to_the_book(self):
        for lot, n in SERVED:
            kept = book(lot, n)
            self.assertNotEqual(kept, ())
            for row in kept:
                leaving = [[row[:at] + row[at + 1:] + (mark,) for at in range(len(row))] for mark in above(lot, row)]
                self.assertTrue(any(all(left in kept for left in way) for way in leaving), (lot, n, row))

    def test_served_slots_never_fail_whatever_is_written_taken_dropped(self):
        chance = random.Random(62)
        for lot, n in SERVED:
            self.assertIs(serves(lot, n), True)
            hopes, held = Hopes(lot, n), [None] * n
            for time in range(300):
                if chance.random() < 0.3:
                    deed_between(held, chance)
                slot = chance.randrange(n)
                row = in_order(lot, others_of(held, slot))
                self.assertIsNotNone(row)
                mark = hopes.mark_held_out_longest(row)
                self.assertTrue(all(is_later(lot, mark, other) for other in row))
                held[slot] = mark

    def writings_until_failing(self, lot, n, give, choose):
        """How many writings there are, with the one that fails; give tells a mark, None where it gives up."""
        held = [None] * n
        for writing in itertools.count(1):
            slot = choose(held)
            mark = give(in_order(lot, others_of(held, slot)))
            if mark is None:
                return writing
            held[slot] = mark
            self.assertLessEqual(writing, 1000)

    def test_whoever_gives_fails_within_lasts_writings(self):
        chance = random.Random(63)
        for lot, n in UNSERVED:
            hopes = Hopes(lot, n)

            def at_random(row):
                return chance.choice(above(lot, row) or (None,))

            def least(row):
                return min(above(lot, row), default=None)

            for give in [least, hopes.mark_held_out_longest] + [at_random] * 10:
                told = self.writings_until_failing(lot, n, give, hopes.slot_that_hurts_most)
                self.assertLessEqual(told, lasts(lot, n), (lot, n))

    def test_who_holds_out_longest_fails_at_the_last_of_these_only(self):
        for lot, n in UNSERVED:
            hopes = Hopes(lot, n)
            told = self.writings_until_failing(lot, n, hopes.mark_held_out_longest, hopes.slot_that_hurts_most)
            self.assertEqual(told, lasts(lot, n))

    def test_who_holds_out_longest_does_so_against_whatever_attack(self):
        chance = random.Random(64)
        for (lot, n), time in itertools.product(UNSERVED, range(20)):
            hopes, held = Hopes(lot, n), [None] * n
            for writing in range(lasts(lot, n) - 1):
                if chance.random() < 0.3:
                    deed_between(held, chance)
                slot = chance.randrange(n)
                held[slot] = hopes.mark_held_out_longest(in_order(lot, others_of(held, slot)))
                self.assertIsNotNone(held[slot], (lot, n))

    def test_all_rows_go_where_the_lot_does_not_serve(self):
        for lot, n in UNSERVED:
            self.assertEqual(book(lot, n), ())
            self.assertEqual(sorted(row for going in rounds(lot, n) for row in going), list(rows(lot, n - 1)))


class FewMarks(unittest.TestCase):
    def test_fewer_than_three_serve_no_two_slots(self):
        self.assertIs(serves(no_pairs(0), 1), False)
        for lot in [lot for many in range(3) for lot in all_lots(many)]:
            self.assertEqual([serves(lot, n) for n in (2, 3, 4, 5)], [False] * 4)
        serving = [lot for lot in all_lots(3) if serves(lot, 2)]
        self.assertEqual(serving, [(3, ((0, 1), (1, 2), (2, 0))), RING])

    def test_fewer_than_seven_serve_no_three_slots(self):
        found = [lot for many in (3, 4) for lot in all_lots(many)] + list(all_lots(5, always=True))
        for lot in found + list(some_lots(6, 500, 65, 1)) + list(some_lots(6, 100, 66)):
            self.assertIs(serves(lot, 3), False, lot)
        for left_out in range(7):
            self.assertIs(serves(part(squares(7), [mark for mark in range(7) if mark != left_out]), 3), False)

    def test_fewer_than_fifteen_serve_no_four_slots(self):
        found = list(some_lots(14, 10, 67, 1)) + [part(squares(19), list(range(start, start + 14))) for start in range(5)]
        for lot in found + [beside(squares(7), squares(7)), squares(11), within(RING, no_pairs(4))]:
            self.assertIs(serves(lot, 4), False, lot)

    def test_no_lot_serves_five_slots(self):
        for lot in list(some_lots(24, 3, 68, 1)) + [squares(23), within(squares(7), RING), line(24)]:
            self.assertIs(serves(lot, 5), False)


class PutTogether(unittest.TestCase):
    LOTS = [no_pairs(0), no_pairs(1), no_pairs(2), line(3), RING, squares(7), beside(RING, no_pairs(1)),
            apart(RING, line(2))] + list(some_lots(4, 4, 69)) + list(some_lots(5, 4, 70, 1))

    def test_within(self):
        for lot, other in itertools.product(self.LOTS, repeat=2):
            if 0 < lot[0] * other[0] <= 24:
                self.assertEqual(reach(within(lot, other)), reach(lot) + reach(other) - 1, (lot, other))

    def test_beside(self):
        for lot, other in itertools.product(self.LOTS, repeat=2):
            self.assertEqual(reach(beside(lot, other)), max(reach(lot), reach(other)), (lot, other))

    def test_a_part(self):
        chance = random.Random(71)
        for lot in self.LOTS + [squares(11), squares(19), within(RING, squares(7))]:
            for time in range(8):
                marks = sorted(chance.sample(range(lot[0]), chance.randrange(lot[0] + 1)))
                self.assertLessEqual(reach(part(lot, marks)), reach(lot))

    def test_led_into_another_one(self):
        chance = random.Random(72)
        for lot in self.LOTS + [squares(11)]:
            fewer = (lot[0], tuple(pair for pair in lot[1] if chance.random() < 0.9))
            self.assertLessEqual(reach(fewer), reach(lot))
            self.assertLessEqual(reach(within(no_pairs(2), lot)), reach(lot))
            names = list(range(lot[0]))
            chance.shuffle(names)
            self.assertEqual(reach(renamed(lot, names)), reach(lot))


if __name__ == "__main__":
    unittest.main()
