"""Point 11: who attacks."""

import functools
import itertools
import random
import unittest

from everlater.attacking import attack
from everlater.errors import MarkError, NotHeld, Serves
from everlater.giving import hold
from everlater.judging import lasts, serves
from tests.plain import (RING, RING_TURNED, all_lots, apart, beside, line, nested, no_pairs, plain_above,
                         plain_in_order, some_lots, squares, things, within)

SLOTS = range(1, 6)
SMALL = [lot for many in range(4) for lot in all_lots(many)]
MIDDLE = [line(4), line(5), no_pairs(4), beside(RING, RING), apart(RING, RING_TURNED), apart(RING, line(2)),
          beside(RING, line(2)), beside(line(2), RING), within(RING, line(2)), within(line(2), RING), squares(7)]
MIDDLE += list(some_lots(4, 8, 101)) + list(some_lots(5, 8, 102)) + list(some_lots(6, 6, 103, 1))
FAILING = [(lot, n) for lot in SMALL + MIDDLE for n in SLOTS if not serves(lot, n)]
GREATER = [(within(RING, line(8)), 3), (within(line(8), RING), 3), (line(24), 2), (line(24), 3), (squares(11), 4),
           (squares(11), 5), (squares(19), 5), (within(RING, RING), 4), (beside(squares(7), squares(7)), 4),
           (apart(within(RING, RING), squares(7)), 4), (line(14), 5)]
GREATER += [(lot, n) for lot in some_lots(16, 2, 104, 1) for n in (4, 5)] + [(lot, 4) for lot in some_lots(24, 1, 105, 1)]


def others_of(held, slot):
    return tuple(mark for at, mark in enumerate(held) if at != slot and mark is not None)


def put(held, slot, mark):
    return held[:slot] + (mark,) + held[slot + 1:]


def longest(lot, n):
    """Against all givers: how many writings there are at the most, the one that fails counted."""
    @functools.cache
    def most_from(held):
        slot = attack(lot, held)
        return 1 + max([most_from(put(held, slot, mark)) for mark in plain_above(lot, others_of(held, slot))], default=0)
    return most_from((None,) * n)


class TheAttack(unittest.TestCase):
    def writings(self, lot, n, giver):
        """How many writings this giver stands, the one that fails counted."""
        held = (None,) * n
        for writing in itertools.count(1):
            slot = attack(lot, held)
            self.assertIs(type(slot), int)
            self.assertIn(slot, range(n))
            row = plain_in_order(lot, others_of(held, slot))
            mark = giver(row)
            if mark not in plain_above(lot, row):
                return writing
            held = put(held, slot, mark)
            self.assertLess(writing, 2000)

    def test_against_all_givers(self):
        for lot, n in FAILING:
            self.assertEqual(longest(lot, n), lasts(lot, n), (lot, n))

    def test_greater_lots_against_drawn_givers(self):
        chance = random.Random(106)
        for lot, n in GREATER:
            givers = [lambda row: min(plain_above(lot, row), default=None)]
            givers += [lambda row: chance.choice(plain_above(lot, row) or (None,))] * 5
            for giver in givers:
                self.assertLessEqual(self.writings(lot, n, giver), lasts(lot, n), (lot, n))

    def test_greater_lots_against_who_gives_as_hold_tells(self):
        for lot, n in GREATER:
            self.assertEqual(self.writings(lot, n, lambda row: hold(lot, n, row)), lasts(lot, n), (lot, n))

    def test_a_giver_that_gives_up_or_gives_no_mark(self):
        for lot, n in FAILING:
            for giver in (lambda row: None, lambda row: lot[0], lambda row: row[0] if row else None):
                self.assertEqual(self.writings(lot, n, giver), 1)

    def test_whatever_is_held_a_slot_is_told(self):
        for lot, n in [(line(4), 2), (line(4), 3), (RING, 3), (squares(7), 4), (RING, 5)]:
            things_held = [None] + list(range(lot[0]))
            for held in itertools.product(things_held, repeat=n) if n < 5 else [(None, 0, None, None, 1), (None,) * 5]:
                marks = [mark for mark in held if mark is not None]
                if len(set(marks)) == len(marks) and plain_in_order(lot, marks) is not None:
                    self.assertIn(attack(lot, held), range(n))
                else:
                    with self.assertRaises(NotHeld):
                        attack(lot, held)


class Refused(unittest.TestCase):
    def not_held(self, lot, thing):
        with self.assertRaises(NotHeld) as caught:
            attack(lot, thing)
        self.assertIs(type(caught.exception), NotHeld)
        self.assertIs(caught.exception.held, thing)

    def test_none_or_more_than_five_things(self):
        for lot in (no_pairs(0), RING, line(8), squares(7)):
            for thing in ((), (None,) * 6, (None,) * 7, (None,) * 60):
                self.not_held(lot, thing)
        self.not_held(line(8), (0, 1, 2, 3, 4, 5))
        self.not_held(line(8), (0, None, None, None, None, None))
        self.assertIn(attack(line(8), (0, 1, 2, 3, 4)), range(5))

    def test_no_tuple(self):
        for thing in ([None, None], [0, 1, None], [], {}, {0: None}, "01", None, 0, True):
            self.not_held(line(4), thing)

    def test_what_is_no_mark(self):
        for wrong in (4, -1, 24, 10 ** 59, True, False, "0", "", (), (0,), [0], [None], {}):
            for held in ((wrong, None), (None, wrong), (wrong, wrong), (3, wrong), (wrong, 3, None), (wrong,)):
                self.not_held(line(4), held)
        self.not_held(no_pairs(0), (0,))
        self.not_held(no_pairs(0), (None, 0))

    def test_marks_alike(self):
        self.not_held(line(4), (0, 0))
        self.not_held(line(4), (0, None, 0))
        self.not_held(line(4), (2, 1, 2, None))
        self.not_held(RING, (0, 1, 0))

    def test_marks_that_make_no_row_in_any_order(self):
        for order in itertools.permutations(range(3)):
            self.not_held(RING, order)
            self.not_held(RING, order + (None,))
        self.not_held(no_pairs(3), (0, 1))
        self.not_held((3, ((1, 0), (2, 1))), (0, 1, 2))
        for order in itertools.permutations((0, 1, 2, None)):
            self.assertIn(attack(line(3), order), range(4))

    def test_things_of_any_kind(self):
        for lot in (RING, line(4), no_pairs(0), squares(7)):
            for thing in things() + [nested((None,), lambda x: (x,), 29), nested((0, 1), lambda x: [x], 29)]:
                self.not_held(lot, thing)
                if thing is not None and type(thing) is not int:
                    self.not_held(lot, (thing,))
                    self.not_held(lot, (None, thing, None))

    def test_serves(self):
        for lot in SMALL + MIDDLE:
            for n in SLOTS:
                if serves(lot, n):
                    helds = [(None,) * n, (0,) + (None,) * (n - 1), (None,) * (n - 1) + (lot[0] - 1,)]
                    for held in helds + [row for row in itertools.permutations(range(lot[0]), n)
                                         if plain_in_order(lot, row) is not None][:10]:
                        with self.assertRaises(Serves) as caught:
                            attack(lot, held)
                        self.assertIs(type(caught.exception), Serves)
        for lot, n in [(squares(19), 4), (squares(23), 4), (within(RING, squares(7)), 4), (no_pairs(24), 1)]:
            with self.assertRaises(Serves):
                attack(lot, (None,) * n)

    def test_what_is_not_held_goes_ahead_of_serves(self):
        for thing in ((0, 0), (0, 3), (True, None), (None, -1), [None, None], ((), None)):
            self.not_held(RING, thing)
        self.not_held(squares(7), (0, 0, None))
        self.not_held(squares(7), (0, 1, 3))
        self.assertIsNone(plain_in_order(squares(7), (0, 1, 3)))


class HandedIn(unittest.TestCase):
    def test_by_names(self):
        self.assertEqual(attack(lot=RING, held=(0, None, 1)), attack(RING, (0, None, 1)))
        self.assertEqual(attack(held=(3, 1), lot=line(4)), attack(line(4), (3, 1)))

    def test_asked_again_the_same_and_nothing_is_changed(self):
        for lot, n in GREATER:
            before = repr(lot)
            held = (None, 0) + (None,) * (n - 2)
            self.assertEqual(attack(lot, held), attack(lot, held))
            self.assertEqual(repr(lot), before)
        thing = [[None], {"a": [0]}]
        for time in range(2):
            with self.assertRaises(MarkError):
                attack(RING, thing)
        self.assertEqual(thing, [[None], {"a": [0]}])


if __name__ == "__main__":
    unittest.main()
