"""Point 16: who attacks a tower; the whole's (b), as far as it tells of this."""

import functools
import itertools
import math
import random
import unittest

from everlater.attacking import attack
from everlater.errors import MarkError, NotHeld, NotKept
from everlater.judging import lasts, reach
from everlater.towerattack import attack_in, lasts_in
from everlater.towergiving import give_in
from everlater.towers import order_in, reach_in
from tests.plain import (RING, RING_TURNED, apart, beside, drawn_above_in, line, nested, no_pairs, plain_is_row_in,
                         plain_lasts_in, plain_later_in, plain_marks, some_lots, squares, things, with_more, within)

# Of these lots some rows are not kept: marks that lead out of the book.
TAILED = beside(no_pairs(1), apart(RING, no_pairs(1)))
LED_OUT = (4, ((0, 1), (1, 3), (2, 1), (3, 2)))
ONE = [(RING,), (line(3),), (no_pairs(1),), (no_pairs(3),), (TAILED,), (LED_OUT,), (squares(7),), (line(9),)]
TWO = [(RING, RING), (RING_TURNED, RING), (RING, line(2)), (line(2), RING), (no_pairs(2), RING), (RING, no_pairs(2)),
       (line(3), line(3)), (no_pairs(1), no_pairs(1)), (TAILED, RING), (RING, TAILED), (LED_OUT, LED_OUT), (RING, line(3)),
       (line(3), RING), (line(2), TAILED), (squares(7), line(2)), (line(2), squares(7)), (squares(7), no_pairs(1))]
THREE = [(RING, line(2), line(2)), (line(2), RING, line(2)), (line(2), line(2), RING), (line(2), line(2), line(2)),
         (RING, no_pairs(2), line(2)), (RING, RING, line(2)), (no_pairs(1), RING, RING), (line(3), line(2), LED_OUT)]
SMALL = ONE + TWO + THREE + [tuple(some_lots(3, many, 160 + many, 0.8)) for many in (1, 2, 3)]
GREATER = [(RING, RING, RING), (squares(7), RING), (RING, squares(7)), (squares(7), squares(7)), (TAILED, TAILED, RING),
           (RING, LED_OUT, TAILED), (next(with_more(squares(7), 2, 1, 164)), RING), (line(5), RING, line(4)),
           (squares(11), squares(19)), (RING,) * 5, (squares(23),), (squares(23), line(3)), (line(24), RING), (line(24),),
           (within(line(8), RING), line(2)), tuple(some_lots(6, 3, 165)), tuple(some_lots(12, 2, 166, 1))]
HIGH = [(RING,) * 40, (squares(7),) * 40, (no_pairs(2),) * 39 + (RING,), (RING,) + (no_pairs(1),) * 38 + (line(5),),
        (RING, squares(7), TAILED, line(2)) * 10, tuple(some_lots(8, 40, 167, 1))]


def others_of(held, slot):
    return tuple(mark for at, mark in enumerate(held) if at != slot and mark is not None)


def put(held, slot, mark):
    return held[:slot] + (mark,) + held[slot + 1:]


def longest(tower):
    """Against all givers: how many writings there are at the most, the one that fails counted."""
    marks = plain_marks(tower)
    over = {mark: {x for x in marks if plain_later_in(tower, x, mark)} for mark in marks}

    @functools.cache
    def most_from(held):
        slot = attack_in(tower, held)
        high = set(marks).intersection(*[over[mark] for mark in others_of(held, slot)])
        return 1 + max([most_from(put(held, slot, mark)) for mark in high], default=0)
    return most_from((None,) * (reach_in(tower) + 1))


class LastsIn(unittest.TestCase):
    def test_against_a_plain_product(self):
        for tower in SMALL + GREATER + HIGH:
            told = lasts_in(tower)
            self.assertIs(type(told), int)
            self.assertEqual(told, 1 + math.prod(lasts(lot, reach(lot) + 1) - 1 for lot in tower), tower)
        for tower in SMALL + [(RING,) * 40, (squares(7), RING) * 3, (line(2),) * 40]:
            self.assertEqual(lasts_in(tower), plain_lasts_in(tower), tower)

    def test_of_one_lot_as_the_lot_lasts(self):
        for lot in [tower[0] for tower in ONE] + [squares(11), squares(19), squares(23), line(24), *some_lots(9, 6, 168)]:
            self.assertEqual(lasts_in((lot,)), lasts(lot, reach(lot) + 1))

    def test_by_hand(self):
        self.assertEqual(lasts_in((RING,)), 3)
        self.assertEqual(lasts_in((RING, RING)), 5)
        self.assertEqual(lasts_in((RING, RING, RING)), 9)
        self.assertEqual(lasts_in((RING,) * 40), 2 ** 40 + 1)
        self.assertEqual(lasts_in((line(24),) * 40), 24 ** 40 + 1)
        self.assertEqual(lasts_in((line(3), line(5))), 16)

    def test_of_lots_that_serve_but_one_slot(self):
        for lot in (no_pairs(1), no_pairs(24)):
            for many in (1, 2, 40):
                self.assertEqual(lasts_in((lot,) * many), 2)
        self.assertEqual(lasts_in((no_pairs(1), RING, no_pairs(5))), 3)


class AttackIn(unittest.TestCase):
    def writings(self, tower, giver, most):
        """How many writings this giver stands, the one that fails counted; None where it is more than most."""
        n = reach_in(tower) + 1
        held = (None,) * n
        for writing in range(1, most + 1):
            slot = attack_in(tower, held)
            self.assertIs(type(slot), int)
            self.assertIn(slot, range(n))
            row = order_in(tower, others_of(held, slot))
            mark = giver(row)
            if mark is None or not all(plain_later_in(tower, mark, other) for other in row):
                return writing
            held = put(held, slot, mark)
        return None

    def test_against_all_givers(self):
        for tower in SMALL:
            self.assertLessEqual(longest(tower), lasts_in(tower), tower)

    def test_against_drawn_givers(self):
        chance = random.Random(169)
        for tower in GREATER:
            for time in range(8):
                most = min(lasts_in(tower), 800)
                told = self.writings(tower, lambda row: drawn_above_in(tower, row, chance), most)
                self.assertIsNotNone(told, tower)

    def test_high_towers_against_drawn_givers(self):
        chance = random.Random(170)
        for tower in HIGH:
            def hasty(row):
                # It seldom stays where it is, so it doesn't stand as long as these towers last.
                found = [drawn_above_in(tower, row, chance) for time in range(3)]
                return min(found, key=lambda mark: sum(row[-1][:at] == mark[:at] for at in range(1, 41))) \
                    if row and None not in found else found[0]
            self.assertIsNotNone(self.writings(tower, hasty, min(lasts_in(tower), 3000)), tower)

    def test_against_who_gives_as_give_in_tells_as_long_as_it_can(self):
        chance = random.Random(171)
        for tower in SMALL + GREATER + HIGH[2:4]:
            def giver(row):
                try:
                    return give_in(tower, row)
                except NotKept:
                    return drawn_above_in(tower, row, chance)
            for time in range(3):
                self.assertIsNotNone(self.writings(tower, giver, min(lasts_in(tower), 800)), tower)

    def test_a_giver_that_gives_up_or_gives_no_later_mark(self):
        for tower in SMALL + GREATER + HIGH[:2]:
            self.assertEqual(self.writings(tower, lambda row: None, 2), 1)
            self.assertEqual(self.writings(tower, lambda row: (0,) * len(tower), 3), 2)

    def test_of_one_lot_it_lasts_no_longer_than_against_attack(self):
        for (lot,) in ONE:
            n = reach(lot) + 1
            self.assertEqual(longest((lot,)), lasts(lot, n))
            self.assertIn(attack(lot, (None,) * n), range(n))

    def test_whatever_is_held_a_slot_is_told(self):
        for tower in [tower for tower in SMALL if len(plain_marks(tower)) ** (reach_in(tower) + 1) < 3000]:
            n = reach_in(tower) + 1
            for held in itertools.product([None] + plain_marks(tower), repeat=n):
                marks = [mark for mark in held if mark is not None]
                rows = [row for row in itertools.permutations(marks) if plain_is_row_in(tower, row)]
                if rows:
                    self.assertIn(attack_in(tower, held), range(n))
                else:
                    with self.assertRaises(NotHeld):
                        attack_in(tower, held)

    def test_long_rows_that_no_attack_leads_to(self):
        for tower in [(line(2),) * 3 + (RING,) * 5, (line(24),) + (RING,) * 3, (RING,) * 3 + (line(24),), (line(4),) * 5 + (RING,)]:
            n = reach_in(tower) + 1
            # Two marks of a ring are a line, too: so any marks make a row.
            marks = list(itertools.islice(itertools.product(*[range(2 if lot == RING else lot[0]) for lot in tower]), 5000))
            chance = random.Random(172)
            for time in range(20):
                self.assertIn(attack_in(tower, tuple(chance.sample(marks, n))), range(n))


class Refused(unittest.TestCase):
    def not_held(self, tower, thing):
        with self.assertRaises(NotHeld) as caught:
            attack_in(tower, thing)
        self.assertIs(type(caught.exception), NotHeld)
        self.assertIs(caught.exception.held, thing)

    def test_one_slot_too_few_or_too_many(self):
        for tower in SMALL + GREATER + HIGH:
            n = reach_in(tower) + 1
            self.assertIn(attack_in(tower, (None,) * n), range(n))
            for many in (0, 1, n - 1, n + 1, n + 2, 2 * n + 1):
                if many != n:
                    self.not_held(tower, (None,) * many)
            mark = (0,) * len(tower)
            self.assertIn(attack_in(tower, (mark,) + (None,) * (n - 1)), range(n))
            self.not_held(tower, (mark,) + (None,) * n)
            self.not_held(tower, (mark,) + (None,) * (n - 2))

    def test_no_tuple(self):
        for thing in ([None, None, None], [(0,), (1,), None], [], {}, {0: None, 1: None, 2: None}, "012", None, 0, True, "---"):
            self.not_held((RING,), thing)

    def test_what_is_no_mark(self):
        for tower in ((RING,), (RING, line(2)), (line(2), RING), (no_pairs(1), RING, line(3))):
            mark = (0,) * len(tower)
            n = reach_in(tower) + 1
            for wrong in (mark[1:], mark + (0,), list(mark), [mark], (mark,), 0, 1, True, False, "0", "", (), [], {}, {0: 0},
                          (True,) + mark[1:], mark[:-1] + (False,), (3,) + mark[1:], mark[:-1] + (-1,), mark[:-1] + (24,),
                          mark[:-1] + (None,), (10 ** 59,) + mark[1:], mark[:-1] + ("0",)):
                for at in range(n):
                    self.not_held(tower, put((None,) * n, at, wrong))
                    self.not_held(tower, put((mark,) + (None,) * (n - 1), at, wrong))

    def test_marks_alike(self):
        self.not_held((RING,), ((0,), (0,), None))
        self.not_held((RING,), ((0,), (1,), (0,)))
        self.not_held((RING, RING), ((0, 1), None, None, (0, 1)))
        self.not_held((RING,) * 40, ((0,) * 40,) * 2 + (None,) * 40)

    def test_marks_that_make_no_row_in_any_order(self):
        for order in itertools.permutations([(0,), (1,), (2,)]):
            self.not_held((RING,), order)
        for order in itertools.permutations([(0, 0), (1, 1), (2, 0), None]):
            self.not_held((RING, RING), order)
        for order in itertools.permutations([(0, 0), (0, 1), (0, 2), (1, 0)]):
            self.not_held((RING, RING), order)
        self.not_held((no_pairs(2),), ((0,), (1,)))
        for order in itertools.permutations([(0, 0), (0, 1), (1, 0), None]):
            self.assertIn(attack_in((RING, RING), order), range(4))

    def test_things_of_any_kind(self):
        for tower in ((RING,), (line(4),), (RING, RING), (no_pairs(1),) * 3, (squares(7),) * 2):
            n = reach_in(tower) + 1
            for thing in things() + [nested((None,), lambda x: (x,), 29), nested((0, 1), lambda x: [x], 29)]:
                self.not_held(tower, thing)
                if thing is not None:
                    self.not_held(tower, (thing,) * n)
                    self.not_held(tower, (None,) * (n - 1) + (thing,))


class HandedIn(unittest.TestCase):
    def test_by_names(self):
        self.assertEqual(lasts_in(tower=(RING, RING)), 5)
        held = ((0, 0), None, (0, 1), None)
        self.assertEqual(attack_in(held=held, tower=(RING, RING)), attack_in((RING, RING), held))
        with self.assertRaises(NotHeld):
            attack_in(held=None, tower=(RING,))

    def test_asked_again_the_same_and_nothing_is_changed(self):
        for tower in SMALL + GREATER + HIGH:
            before = repr(tower)
            held = ((0,) * len(tower),) + (None,) * reach_in(tower)
            self.assertEqual(attack_in(tower, held), attack_in(tower, held))
            self.assertEqual(lasts_in(tower), lasts_in(tower))
            self.assertEqual(repr(tower), before)
        thing = [[None], {"a": [0]}]
        for time in range(2):
            with self.assertRaises(MarkError):
                attack_in((RING,), thing)
        self.assertEqual(thing, [[None], {"a": [0]}])

    def test_somewhat_beyond_the_limits_nothing_but_not_held_is_raised(self):
        for tower in ((RING,) * 42, (no_pairs(26), line(26)), (line(26), RING), (no_pairs(0), RING), (RING, no_pairs(0)),
                      (no_pairs(0),)):
            lasts_in(tower)
            for held in ((), ((0,) * len(tower),), (None,) * (reach_in(tower) + 1)):
                try:
                    attack_in(tower, held)
                except NotHeld:
                    pass


if __name__ == "__main__":
    unittest.main()
