"""Points 9 and 10: kept rows, who gives, who holds out longest."""

import functools
import itertools
import random
import unittest

from everlater.errors import MarkError, NotKept
from everlater.giving import give, hold, is_kept
from everlater.judging import book, lasts, serves
from everlater.lots import rows
from tests.plain import (ENDLESS, RING, RING_TURNED, all_lots, apart, beside, line, nested, no_pairs, plain_above,
                         plain_book, plain_give, plain_hold, plain_in_order, plain_is_kept, plain_is_row, some_lots,
                         soonest_failing, spoiled, squares, things, with_more, within)

SLOTS = range(1, 6)
SMALL = [lot for many in range(4) for lot in all_lots(many)]
WITH_A_TAIL = beside(no_pairs(1), apart(RING, no_pairs(1)))
MIDDLE = [line(4), line(5), no_pairs(4), beside(RING, RING), apart(RING, RING_TURNED), WITH_A_TAIL, within(RING, line(2)),
          beside(RING, line(2))]
MIDDLE += list(some_lots(4, 6, 91)) + list(some_lots(5, 6, 92)) + list(some_lots(6, 4, 93, 1))
SERVING_THREE = [squares(7), within(RING, RING), apart(squares(7), line(2)), beside(line(2), squares(7)),
                 beside(squares(7), RING)] + list(with_more(squares(7), 2, 3, 97))
ASKED = [(lot, n) for lot in SMALL + MIDDLE for n in SLOTS] + [(lot, n) for lot in SERVING_THREE for n in (2, 3, 4)]
SERVED = [(no_pairs(1), 1), (line(3), 1), (RING, 1), (RING, 2), (beside(RING, RING), 2), (WITH_A_TAIL, 2), (squares(7), 2)]
SERVED += [(lot, 3) for lot in SERVING_THREE]


def rows_up_to(lot, size):
    return [row for many in range(min(size, 5) + 1) for row in rows(lot, many)] + longer_rows(lot, size)


def longer_rows(lot, size):
    """Rows of more than five marks, up to this size."""
    found, told = rows(lot, 5), []
    for many in range(6, size + 1):
        found = [row + (mark,) for row in found for mark in plain_above(lot, row)]
        told += found
    return told


class IsKept(unittest.TestCase):
    def test_of_all_rows_of_at_most_two_marks_more(self):
        for lot, n in ASKED:
            for row in rows_up_to(lot, n + 2):
                self.assertIs(is_kept(lot, n, row), plain_is_kept(lot, n, row), (lot, n, row))

    def test_of_all_tuples_of_marks(self):
        for lot in SMALL + [line(4), WITH_A_TAIL]:
            for n in (1, 2, 3):
                for marks in itertools.chain(*[itertools.product(range(lot[0]), repeat=size) for size in range(4)]):
                    expected = plain_is_row(lot, marks) and plain_is_kept(lot, n, marks)
                    self.assertIs(is_kept(lot, n, marks), expected, (lot, n, marks))

    def test_nothing_is_kept_where_there_is_no_book(self):
        for lot, n in ASKED:
            self.assertIs(is_kept(lot, n, ()), serves(lot, n))
            if not serves(lot, n):
                self.assertFalse(any(is_kept(lot, n, row) for row in rows_up_to(lot, n)))

    def test_all_parts_of_the_book(self):
        for lot, n in SERVED:
            for row in book(lot, n):
                for size in range(n):
                    for one in itertools.combinations(row, size):
                        self.assertIs(is_kept(lot, n, one), True)

    def test_of_n_marks_each_part_must_be_in_the_book(self):
        seen = set()
        for lot, n in SERVED + [(squares(11), 3)] + [(lot, 3) for lot in with_more(squares(7), 2, 40, 90)]:
            kept = plain_book(lot, n)
            for row in rows(lot, n):
                expected = all(one in kept for one in itertools.combinations(row, n - 1))
                self.assertIs(is_kept(lot, n, row), expected)
                seen.add((expected, sum(one in kept for one in itertools.combinations(row, n - 1))))
        self.assertIn((False, 2), seen)
        self.assertIn((True, 3), seen)

    def test_one_slot(self):
        for lot in (no_pairs(1), line(3), RING):
            self.assertIs(is_kept(lot, 1, ()), True)
            for mark in range(lot[0]):
                self.assertIs(is_kept(lot, 1, (mark,)), True)
            for row in rows(lot, 2):
                self.assertIs(is_kept(lot, 1, row), False)
        self.assertIs(is_kept(no_pairs(0), 1, ()), False)

    def test_parts_turned_about_and_marks_twice(self):
        for lot, n in SERVED:
            for row in [one for one in rows_up_to(lot, n) if is_kept(lot, n, one)]:
                for order in itertools.permutations(row):
                    self.assertIs(is_kept(lot, n, order), order == row)
                for mark in row:
                    self.assertIs(is_kept(lot, n, row + (mark,)), False)
                    self.assertIs(is_kept(lot, n, (mark,) + row), False)

    def test_truths_lists_and_others_within(self):
        for lot, n in SERVED:
            for row in rows_up_to(lot, n)[:40]:
                for thing in spoiled(row):
                    self.assertIs(is_kept(lot, n, thing), False, (lot, n, thing))
        self.assertIs(is_kept(RING, 2, (True,)), False)
        self.assertIs(is_kept(RING, 2, (False, 1)), False)
        self.assertIs(is_kept(RING, 2, (0, True)), False)

    def test_things_of_any_kind(self):
        for lot, n in [(RING, 1), (RING, 2), (RING, 3), (no_pairs(0), 1), (squares(7), 3), (line(24), 2)]:
            for thing in things():
                self.assertIs(is_kept(lot, n, thing), False)
                if type(thing) is not int:
                    self.assertIs(is_kept(lot, n, (0, thing)), False)


class Give(unittest.TestCase):
    def refused(self, lot, n, thing):
        with self.assertRaises(NotKept) as caught:
            give(lot, n, thing)
        self.assertIs(type(caught.exception), NotKept)
        self.assertIs(caught.exception.row, thing)

    def test_of_all_rows(self):
        for lot, n in ASKED:
            for row in rows_up_to(lot, n + 1):
                if plain_is_kept(lot, n, row) and len(row) < n:
                    told = give(lot, n, row)
                    self.assertEqual(told, plain_give(lot, n, row), (lot, n, row))
                    self.assertIs(type(told), int)
                else:
                    self.refused(lot, n, row)

    def test_the_row_with_it_is_kept(self):
        for lot, n in SERVED + [(squares(19), 4), (squares(11), 3)]:
            row = ()
            while len(row) < n:
                row += (give(lot, n, row),)
                self.assertIs(is_kept(lot, n, row), True)
            self.refused(lot, n, row)

    def test_by_hand(self):
        self.assertEqual([give(RING, 2, row) for row in ((), (0,), (1,), (2,))], [0, 1, 2, 0])
        self.assertEqual([give(RING, 1, ()), give(line(5), 1, ()), give(no_pairs(3), 1, ())], [0, 0, 0])
        self.assertEqual([give(WITH_A_TAIL, 2, (mark,)) for mark in range(4)], [1, 2, 3, 1])
        self.refused(WITH_A_TAIL, 2, (4,))
        self.refused(WITH_A_TAIL, 2, (0, 4))
        # The least mark that is later won't do where it leads out of the book.
        lot = (4, ((0, 1), (1, 3), (2, 1), (3, 2)))
        self.assertEqual(give(lot, 2, (1,)), 2)

    def test_rows_of_n_marks_and_more(self):
        for lot, n in SERVED:
            for row in rows_up_to(lot, n + 2):
                if len(row) >= n:
                    self.refused(lot, n, row)

    def test_parts_turned_about_truths_lists(self):
        for lot, n in SERVED:
            for row in rows_up_to(lot, n - 1)[:40]:
                for thing in spoiled(row):
                    self.refused(lot, n, thing)
                for order in itertools.permutations(row):
                    if order != row:
                        self.refused(lot, n, order)

    def test_things_of_any_kind(self):
        for lot, n in [(RING, 1), (RING, 2), (RING, 3), (no_pairs(0), 1), (no_pairs(2), 2), (squares(7), 3), (line(24), 2)]:
            for thing in things() + [nested((0,), lambda x: (x,), 29), nested((0, 1), lambda x: [x], 29)]:
                self.refused(lot, n, thing)

    def test_it_never_fails_whatever_is_written_taken_dropped(self):
        for lot, n in SERVED:
            giver = functools.cache(lambda row: give(lot, n, row))
            self.assertEqual(soonest_failing(lot, n, giver), ENDLESS, (lot, n))

    def test_it_never_fails_in_long_histories_of_greater_lots(self):
        chance = random.Random(94)
        for lot, n in [(squares(19), 4), (squares(23), 4), (within(RING, squares(7)), 4), (within(squares(7), RING), 4),
                       (squares(11), 3), (within(RING, line(8)), 2), (next(some_lots(24, 1, 95, 1)), 3)]:
            giver = functools.cache(lambda row: give(lot, n, row))
            held = [None] * n
            for time in range(1500):
                slot, other, deed = chance.randrange(n), chance.randrange(n), chance.random()
                if deed < 0.15:
                    held[slot] = held[other]
                elif deed < 0.2:
                    held[slot] = None
                else:
                    others = {mark for at, mark in enumerate(held) if at != slot and mark is not None}
                    held[slot] = giver(plain_in_order(lot, others))
                    self.assertIn(held[slot], plain_above(lot, others))


class Hold(unittest.TestCase):
    def test_of_all_rows_of_small_lots(self):
        for lot, n in [(lot, n) for lot in SMALL + MIDDLE for n in SLOTS]:
            for row in rows_up_to(lot, n - 1):
                self.assertEqual(hold(lot, n, row), plain_hold(lot, n, row), (lot, n, row))

    def test_of_greater_lots(self):
        chance = random.Random(96)
        asked = [(lot, n) for lot in SERVING_THREE for n in (2, 3, 4)] + [(squares(7), 5), (line(9), 4), (line(9), 5)]
        for lot, n in asked + [(squares(11), 3), (squares(11), 4), (within(RING, line(4)), 3)]:
            for row in rows_up_to(lot, n - 2) + chance.sample(rows(lot, n - 1), min(25, len(rows(lot, n - 1)))):
                self.assertEqual(hold(lot, n, row), plain_hold(lot, n, row), (lot, n, row))

    def test_of_the_greatest_lots(self):
        for n in (2, 3, 4, 5):
            self.assertEqual(hold(line(24), n, ()), 0)
            self.assertEqual(hold(line(24), n, (20,)), 21)
        self.assertEqual(hold(line(24), 5, (3, 9, 10)), 11)
        self.assertEqual(hold(line(24), 5, (3, 9, 10, 22)), 23)
        self.assertIsNone(hold(line(24), 5, (3, 23)))
        for row in ((), (4,), rows(squares(23), 2)[100], rows(squares(23), 3)[100]):
            self.assertEqual(hold(squares(23), 4, row), plain_hold(squares(23), 4, row))

    def test_none_where_no_mark_is_later(self):
        for n in SLOTS:
            self.assertIsNone(hold(no_pairs(0), n, ()))
        for n in (2, 3, 4, 5):
            self.assertIsNone(hold(no_pairs(3), n, (1,)))
            self.assertIsNone(hold(line(4), n, (3,)))
        self.assertIsNone(hold(RING, 3, (0, 1)))

    def test_one_slot_takes_the_least_mark(self):
        for lot in (no_pairs(1), no_pairs(3), line(24), RING, squares(11)):
            self.assertEqual(hold(lot, 1, ()), 0)

    def test_it_keeps_to_the_book_where_there_is_one(self):
        for lot, n in SERVED:
            for row in rows_up_to(lot, n - 1):
                if is_kept(lot, n, row):
                    self.assertIs(is_kept(lot, n, row + (hold(lot, n, row),)), True)

    def test_the_least_of_those_by_which_most_is_left(self):
        self.assertEqual(hold(line(4), 2, (0,)), 1)
        self.assertEqual(hold(line(4), 3, ()), 0)
        self.assertEqual(hold(no_pairs(4), 2, ()), 0)
        self.assertEqual(hold(apart(no_pairs(1), line(3)), 2, ()), 1)
        self.assertEqual(hold(apart(line(2), RING), 2, ()), 2)
        self.assertEqual(hold(beside(line(2), apart(no_pairs(1), RING)), 2, (1,)), 3)

    def test_who_gives_so_holds_out_all_but_the_last_against_whatever_attack(self):
        for lot, n in [(lot, n) for lot in SMALL + MIDDLE for n in (SLOTS if lot[0] < 5 else (1, 2, 3, 4))]:
            giver = functools.cache(lambda row: hold(lot, n, row))
            told = lasts(lot, n)
            self.assertEqual(soonest_failing(lot, n, giver), ENDLESS if told is None else told, (lot, n))


class HandedIn(unittest.TestCase):
    def test_by_names(self):
        self.assertIs(is_kept(lot=RING, n=2, thing=(0, 1)), True)
        self.assertIs(is_kept(thing=(1, 0), lot=RING, n=2), False)
        self.assertEqual(give(row=(1,), n=2, lot=RING), 2)
        self.assertEqual(hold(n=3, row=(1,), lot=RING), 2)
        with self.assertRaises(NotKept):
            give(lot=RING, row=[], n=2)

    def test_asked_again_the_same_and_nothing_is_changed(self):
        for lot, n in SERVED:
            before = repr(lot)
            for row in rows_up_to(lot, n - 1)[:30]:
                self.assertEqual(is_kept(lot, n, row), is_kept(lot, n, row))
                self.assertEqual(hold(lot, n, row), hold(lot, n, row))
                if is_kept(lot, n, row):
                    self.assertEqual(give(lot, n, row), give(lot, n, row))
            self.assertEqual(repr(lot), before)
        thing = [[0], {"a": [1]}, ([2],)]
        for time in range(2):
            self.assertIs(is_kept(RING, 2, thing), False)
            with self.assertRaises(MarkError):
                give(RING, 2, thing)
        self.assertEqual(thing, [[0], {"a": [1]}, ([2],)])

    def test_somewhat_beyond_the_limits_nothing_but_not_kept_is_raised(self):
        for lot, n in [(RING, 0), (RING, 6), (no_pairs(26), 1), (line(26), 2), (squares(7), 6)]:
            for row in ((), (0,), (0, 1), (0, 1, 2)):
                is_kept(lot, n, row)
                if plain_is_row(lot, row):
                    hold(lot, n, row)
                try:
                    give(lot, n, row)
                except NotKept:
                    pass


if __name__ == "__main__":
    unittest.main()
