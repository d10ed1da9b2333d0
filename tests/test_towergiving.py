"""Point 15: who gives in a tower; the whole's (b), as far as it tells of who gives."""

import functools
import itertools
import random
import unittest

from everlater.errors import MarkError, NotKept
from everlater.giving import give, is_kept
from everlater.judging import reach
from everlater.towergiving import give_in, is_kept_in
from everlater.towers import is_row_in, later_in, order_in, reach_in
from tests.plain import (ENDLESS, RING, RING_TURNED, all_rows_in, apart, beside, line, nested, no_pairs, plain_give_in,
                         plain_is_kept_in, plain_is_row_in, plain_marks, plain_reach_in, plain_rows, some_lots,
                         soonest_failing, squares, things, with_more, within)

# Of these lots some rows are not kept: marks that lead out of the book.
TAILED = beside(no_pairs(1), apart(RING, no_pairs(1)))
LED_OUT = (4, ((0, 1), (1, 3), (2, 1), (3, 2)))
ONE = [(RING,), (line(3),), (no_pairs(1),), (no_pairs(2),), (TAILED,), (LED_OUT,), (squares(7),), (within(RING, RING),)]
TWO = [(RING, RING), (RING_TURNED, RING), (RING, line(2)), (line(2), RING), (no_pairs(2), RING), (RING, no_pairs(2)),
       (line(3), line(3)), (no_pairs(1), no_pairs(1)), (TAILED, RING), (RING, TAILED), (LED_OUT, LED_OUT),
       (no_pairs(1), squares(7)), (squares(7), no_pairs(1))]
THREE = [(RING, no_pairs(1), RING), (line(2), RING, line(2)), (RING, line(2), no_pairs(2)), (no_pairs(1), RING, RING),
         (RING, RING, no_pairs(1)), (RING, RING, line(2)), (LED_OUT, no_pairs(1), RING), (line(2), line(2), line(2))]
SMALL = ONE + TWO + THREE
SAMPLED = [(RING, RING, RING), (squares(7), RING), (RING, squares(7)), (squares(7), squares(7)), (TAILED, TAILED, RING),
           (RING, LED_OUT, TAILED), (next(with_more(squares(7), 2, 1, 151)), RING), (RING, RING, RING, RING)]
HIGH = [(RING,) * 40, (squares(7),) * 40, (RING, squares(7), TAILED, line(2)) * 10, (no_pairs(1),) * 39 + (squares(7),),
        (squares(19),) + (no_pairs(2),) * 38 + (RING,), tuple(some_lots(8, 40, 152, 1))]


@functools.cache
def rows_of(tower):
    """All rows of a small tower; it has none of more than eight marks."""
    return all_rows_in(tower, 8)


def drawn_rows(tower, count, chance):
    """Rows of a tower by a chance, each grown by drawn marks as long as this works."""
    for number in range(count):
        row = ()
        for time in range(12):
            mark = tuple(chance.randrange(lot[0]) for lot in tower)
            if row and chance.random() < 0.6:
                mark = row[-1][:chance.randrange(len(tower))] + mark
                mark = mark[:len(tower)]
            if plain_is_row_in(tower, row + (mark,)):
                row += (mark,)
        yield row


def given_rows(tower, chance):
    """Kept rows, by giving and leaving out again."""
    row = ()
    for time in range(60):
        if len(row) == reach_in(tower) or (row and chance.random() < 0.3):
            out = chance.randrange(len(row))
            row = row[:out] + row[out + 1:]
        else:
            row += (plain_give_in(tower, row),)
        yield row


class Looks(unittest.TestCase):
    def refused(self, tower, thing):
        with self.assertRaises(NotKept) as caught:
            give_in(tower, thing)
        self.assertIs(type(caught.exception), NotKept)
        self.assertIs(caught.exception.row, thing)

    def look(self, tower, row):
        """Both, of a row of the tower, against the words of point 15; whether it is kept."""
        kept = plain_is_kept_in(tower, row)
        self.assertIs(is_kept_in(tower, row), kept, (tower, row))
        if kept and len(row) < plain_reach_in(tower):
            told = give_in(tower, row)
            self.assertEqual(told, plain_give_in(tower, row), (tower, row))
            self.assertTrue(type(told) is tuple and all(type(one) is int for one in told))
            self.assertTrue(all(later_in(tower, told, mark) for mark in row))
            self.assertIs(is_kept_in(tower, row + (told,)), True)
        else:
            self.refused(tower, row)
        return kept


class Rows(Looks):
    def test_all_rows_of_small_towers(self):
        for tower in SMALL:
            for row in rows_of(tower):
                self.look(tower, row)

    def test_kept_rows_longer_than_the_reach(self):
        seen = 0
        for tower in SMALL:
            for row in rows_of(tower):
                if len(row) >= reach_in(tower) and is_kept_in(tower, row):
                    self.refused(tower, row)
                    seen += len(row) > reach_in(tower)
        self.assertGreater(seen, 20)
        row = ((0, 0), (0, 1), (1, 0), (1, 1))
        self.assertIs(is_kept_in((RING, RING), row), True)
        self.refused((RING, RING), row)

    def test_drawn_rows_of_greater_towers(self):
        chance = random.Random(153)
        seen = {True: 0, False: 0}
        for tower in SAMPLED:
            for row in itertools.chain(drawn_rows(tower, 120, chance), given_rows(tower, chance)):
                seen[self.look(tower, row)] += 1
        self.assertGreater(min(seen.values()), 100)

    def test_kept_rows_of_high_towers(self):
        chance = random.Random(154)
        for tower in HIGH:
            for row in list(given_rows(tower, chance))[::4]:
                self.look(tower, row)

    def test_of_one_lot_as_the_lot_tells(self):
        for (lot,) in ONE:
            n = reach(lot)
            for row in [()] + [row for size in (1, 2, 3, 4) for row in plain_rows(lot, size)]:
                told = tuple((mark,) for mark in row)
                self.assertIs(is_kept_in((lot,), told), is_kept(lot, n, row))
                if is_kept(lot, n, row) and len(row) < n:
                    self.assertEqual(give_in((lot,), told), (give(lot, n, row),))
                else:
                    self.refused((lot,), told)

    def test_of_none(self):
        for tower in SMALL + SAMPLED + HIGH:
            self.assertIs(is_kept_in(tower, ()), True)
            self.assertEqual(give_in(tower, ()), tuple(give(lot, reach(lot), ()) for lot in tower))

    def test_a_last_block_that_has_room_and_one_that_has_none(self):
        tower = (RING, RING)
        self.assertEqual(give_in(tower, ()), (0, 0))
        self.assertEqual(give_in(tower, ((0, 0),)), (0, 1))
        self.assertEqual(give_in(tower, ((0, 2),)), (0, 0))
        self.assertEqual(give_in(tower, ((0, 0), (0, 1))), (1, 0))
        self.assertEqual(give_in(tower, ((2, 0), (0, 1))), (0, 2))
        self.refused(tower, ((2, 0), (2, 1), (0, 1)))
        self.assertEqual(give_in((RING, line(2)), ((0, 1),)), (1, 0))
        self.assertEqual(give_in((line(2), RING), ((1, 1),)), (1, 2))
        self.assertEqual(give_in((RING, RING, RING), ((0, 0, 0), (0, 0, 1))), (0, 1, 0))
        self.assertEqual(give_in((RING, RING, RING), ((0, 0, 0), (0, 0, 1), (0, 1, 0))), (1, 0, 0))

    def test_outer_marks_that_are_not_kept(self):
        tower = (TAILED, RING)
        self.assertIs(is_kept_in(tower, ((3, 0),)), True)
        for row in (((4, 0),), ((0, 0), (4, 0)), ((0, 0), (0, 1), (4, 0))):
            self.assertIs(is_row_in(tower, row), True)
            self.assertIs(is_kept_in(tower, row), False)
            self.refused(tower, row)
        for row in (((0, 0), (1, 0)), ((0, 0), (1, 0), (2, 0))):
            self.assertIs(is_row_in((line(3), RING), row), True)
            self.assertIs(is_kept_in((line(3), RING), row), False)

    def test_blocks_that_are_not_kept(self):
        tower = (RING, TAILED)
        for row in (((0, 4),), ((0, 0), (0, 4)), ((0, 4), (1, 0)), ((0, 0), (1, 4)), ((0, 0), (0, 1), (0, 2))):
            self.assertIs(is_row_in(tower, row), True)
            self.assertIs(is_kept_in(tower, row), False, row)
            self.refused(tower, row)
        self.assertIs(is_kept_in((RING, line(2)), ((0, 0), (0, 1))), False)

    def test_outer_marks_that_come_again_behind_others(self):
        for thing in (((0, 0), (1, 0), (0, 1)), ((1, 0), (2, 0), (1, 1)), ((0, 0), (1, 0), (0, 0)), ((0, 1), (1, 1), (0, 2))):
            for tower in ((RING, RING), (line(3), RING), (RING, squares(7)), (squares(7), squares(7))):
                self.assertIs(is_kept_in(tower, thing), False)
                self.refused(tower, thing)
        self.assertIs(is_kept_in((RING, RING, RING), ((0, 0, 0), (0, 1, 0), (0, 0, 1))), False)


class OfAnything(Looks):
    def none(self, tower, thing):
        self.assertIs(is_kept_in(tower, thing), False, (tower, repr(thing)[:200]))
        self.refused(tower, thing)

    def test_all_few_marks_that_make_no_row(self):
        for tower in [tower for tower in SMALL if len(plain_marks(tower)) < 13]:
            for size in (2, 3) if len(plain_marks(tower)) < 7 else (2,):
                for thing in itertools.product(plain_marks(tower), repeat=size):
                    if not plain_is_row_in(tower, thing):
                        self.none(tower, thing)

    def test_two_exchanged_and_a_mark_twice(self):
        for tower in SMALL:
            for row in rows_of(tower)[:60]:
                for order in itertools.permutations(row):
                    if order != row:
                        self.none(tower, order)
                for mark in row:
                    self.none(tower, row + (mark,))
                    self.none(tower, (mark,) + row)

    def test_lists_truths_and_marks_that_are_none(self):
        for tower in SMALL + HIGH[:2]:
            mark = (0,) * len(tower)
            for wrong in ([mark], [list(mark)], (list(mark),), (mark, None), (mark, 0), (mark, ()), mark, (mark[:-1],),
                          (mark + (0,),), ((False,) * len(tower),), ((True,) + mark[1:],), ((mark,),), {mark: 1}, (None,), ((),),
                          ((24,) + mark[1:],), (mark[:-1] + (-1,),), [], {}, "", "0", 0, None, True, False):
                self.none(tower, wrong)

    def test_things_of_any_kind(self):
        for tower in (ONE[0], ONE[6], TWO[0], THREE[0], HIGH[0], (no_pairs(1), no_pairs(1))):
            for thing in things() + [nested((0, 0), lambda x: (x,), 28), nested((), lambda x: (x, x), 10)]:
                self.none(tower, thing)
                self.none(tower, ((0,) * len(tower), thing))
                if type(thing) is not int:
                    self.none(tower, ((thing,),))


class Histories(unittest.TestCase):
    """Who gives as give_in tells, in as many slots as reach_in tells."""

    def play(self, tower, steps, chance):
        n = reach_in(tower)
        giver = functools.cache(lambda row: give_in(tower, row))
        held, written = [None] * n, [None] * n
        for time in range(steps):
            slot, other, deed = chance.randrange(n), chance.randrange(n), chance.random()
            if deed < 0.12:
                held[slot], written[slot] = held[other], written[other]
            elif deed < 0.18:
                held[slot] = written[slot] = None
            else:
                others = {written[at]: held[at] for at in range(n) if at != slot and held[at] is not None}
                row = tuple(others[when] for when in sorted(others))
                self.assertEqual(order_in(tower, tuple(others.values())), row)
                mark = giver(row)
                self.assertTrue(all(later_in(tower, mark, one) for one in row))
                held[slot], written[slot] = mark, time

    def test_small_towers(self):
        chance = random.Random(155)
        for tower in SMALL + SAMPLED:
            self.play(tower, 300, chance)

    def test_high_towers(self):
        chance = random.Random(156)
        for tower in HIGH:
            self.play(tower, 250, chance)

    def test_the_oldest_is_written_again_and_again(self):
        for tower in [(RING,) * 7, (squares(7), RING, RING), (RING, squares(7), line(2), RING)]:
            row = ()
            for time in range(400):
                row += (give_in(tower, row),)
                self.assertIs(is_row_in(tower, row), True)
                row = row[1:] if len(row) == reach_in(tower) else row

    def test_all_histories_of_towers_of_few_marks(self):
        for tower in [(RING,), (RING, RING), (RING, line(2)), (line(2), RING), (no_pairs(2), RING), (TAILED, line(2)),
                      (RING, no_pairs(2), RING), (squares(7), no_pairs(2)), (RING, LED_OUT), (line(2), squares(7))]:
            lot, marks = functools.reduce(within, tower), plain_marks(tower)
            number = {mark: at for at, mark in enumerate(marks)}
            giver = functools.cache(lambda row: number[give_in(tower, tuple(marks[at] for at in row))])
            self.assertEqual(soonest_failing(lot, reach_in(tower), giver), ENDLESS)
            self.assertEqual(reach_in(tower), reach(lot))


class HandedIn(unittest.TestCase):
    def test_by_names(self):
        self.assertIs(is_kept_in(thing=((0, 0),), tower=(RING, RING)), True)
        self.assertEqual(give_in(row=((0, 0),), tower=(RING, RING)), (0, 1))
        with self.assertRaises(NotKept):
            give_in(tower=(RING, RING), row=None)

    def test_asked_again_the_same_and_nothing_is_changed(self):
        for tower in SMALL + HIGH:
            before = repr(tower)
            thing = [[0], ([1], {"a": [0]})]
            row = (give_in(tower, ()),)
            for time in range(2):
                self.assertIs(is_kept_in(tower, thing), False)
                with self.assertRaises(MarkError):
                    give_in(tower, thing)
                self.assertIs(is_kept_in(tower, row), True)
                self.assertEqual(give_in(tower, ()), row[0])
                if reach_in(tower) > 1:
                    self.assertEqual(give_in(tower, row), give_in(tower, row))
            self.assertEqual((repr(tower), thing), (before, [[0], ([1], {"a": [0]})]))

    def test_somewhat_beyond_the_limits_nothing_but_not_kept_is_raised(self):
        for tower in ((RING,) * 42, (no_pairs(26), line(26)), (line(26), RING), (no_pairs(0), RING), (RING, no_pairs(0)),
                      (no_pairs(0),)):
            for row in ((), ((0,) * len(tower),)):
                is_kept_in(tower, row)
                try:
                    give_in(tower, row)
                except NotKept:
                    pass


if __name__ == "__main__":
    unittest.main()
