"""Point 20: copies; the whole's (g), as far as it tells of copies."""

import collections
import copy
import itertools
import random
import unittest

from everlater.copies import Copies
from everlater.errors import BadMany, BadTower, Empty, MarkError, NoDeed, NoReach, NoSlot, NoValue
from everlater.towers import reach_in
from tests.plain import (RING, PlainCopies, Refusing, apart, beside, line, nested, no_pairs, outcome, some_lots, squares,
                         things, within)

# Of this lot some rows are not kept: marks that lead out of the book.
TAILED = beside(no_pairs(1), apart(RING, no_pairs(1)))
SMALL = [((RING,), 2), ((RING,), 1), ((no_pairs(1),), 1), ((line(4), no_pairs(2)), 1), ((TAILED,), 2), ((squares(7),), 3),
         ((squares(7),), 2), ((RING, RING), 3), ((RING, RING), 1), ((RING, TAILED), 3), ((RING, RING, RING), 4),
         ((squares(7), RING), 4), ((RING, squares(7)), 3), ((within(RING, RING),), 3)]
HIGH = [((RING,) * 40, 41), ((RING,) * 40, 6), ((squares(7),) * 40, 60), ((RING, squares(7), TAILED, line(2)) * 10, 31),
        ((no_pairs(1),) * 39 + (squares(7),), 3), (tuple(some_lots(8, 40, 211, 1)), 12)]
WRONG_PLACES = [-1, 60, True, False, "0", "", None, (), (0,), [0], {}, 10 ** 59]
WRONG_VALUES = [True, False, None, "", "1", (), (1,), [], [1], {}, {1: 1}]


class CopiesTests(Refusing):
    def look(self, copies, plain):
        self.assertEqual(copies.read(), plain.read())
        self.assertEqual(copies.stale(), plain.stale())
        self.assertIs(type(copies.stale()), tuple)
        self.assertIs(copies.agree(), plain.agree())
        for place in range(len(plain.slots)):
            self.assertEqual(copies.at(place), plain.at(place))

    def drawn(self, many, chance):
        def place():
            return chance.choice(WRONG_PLACES + [many]) if chance.random() < 0.03 else chance.randrange(many)
        word = chance.choices(["write", "spread", "lose", "back"], [8, 8, 2, 4])[0]
        value = chance.choice(WRONG_VALUES) if chance.random() < 0.03 else chance.randrange(-3, 4)
        return word, {"write": (place(), value), "spread": (place(), place()), "lose": (place(),), "back": ()}[word]

    def do(self, copies, plain, deed):
        word, arguments = deed
        told = outcome(getattr(copies, word), *arguments)
        self.assertEqual(told, outcome(getattr(plain, word), *arguments), deed)
        if word == "spread" and told[0] == "told":
            self.assertIs(type(told[1]), bool)
        return told


class Made(CopiesTests):
    def test_the_order_of_the_refusals(self):
        bad_tower = (no_pairs(0),)
        self.refused(BadTower, bad_tower, Copies, bad_tower, 0)
        self.refused(BadTower, bad_tower, Copies, bad_tower, 61)
        self.refused(BadMany, 0, Copies, (RING,), 0)
        self.refused(BadMany, 61, Copies, (RING,), 61)
        for many in (3, 60):
            self.assertEqual(outcome(Copies, (RING,), many), ("NoReach", (2,)))

    def test_bad_towers(self):
        for thing in things() + [RING, [RING], (RING,) * 41, (RING, no_pairs(0)), (RING, None), ((25, ()),), ((True, ()),)]:
            self.refused(BadTower, thing, Copies, thing, 1)

    def test_bad_many(self):
        tower = (squares(7),) * 40
        for wrong in things() + [0, -1, 61, 10 ** 59, True, "1", (1,), [1]]:
            if type(wrong) is not int or not 1 <= wrong <= 60:
                self.refused(BadMany, wrong, Copies, tower, wrong)
        for many in (1, 60):
            self.assertIsNone(Copies(tower, many).at(many - 1))

    def test_no_reach(self):
        for tower, most in SMALL + HIGH:
            told = reach_in(tower)
            self.assertIsNone(Copies(tower, min(told, 60)).read())
            if told < 60:
                with self.assertRaises(NoReach) as caught:
                    Copies(tower, told + 1)
                self.assertEqual(caught.exception.reach, told)


class Deeds(CopiesTests):
    def test_by_hand(self):
        copies = Copies((RING, RING), 3)
        self.assertEqual((copies.read(), copies.stale(), copies.agree(), copies.at(0)), (None, (), True, None))
        self.assertEqual(copies.write(1, 5), (0, 0))
        self.assertEqual((copies.read(), copies.stale(), copies.agree(), copies.at(1)), (5, (), True, (5, (0, 0))))
        self.assertEqual(copies.write(0, 0), (0, 1))
        self.assertEqual((copies.read(), copies.stale(), copies.agree()), (0, (1,), False))
        self.assertIs(copies.spread(2, 1), True)
        self.assertEqual((copies.at(2), copies.stale()), ((5, (0, 0)), (1, 2)))
        self.assertIs(copies.spread(0, 1), False)
        self.assertIs(copies.spread(2, 2), False)
        self.assertIs(copies.spread(2, 1), False)
        self.assertIs(copies.spread(2, 0), True)
        self.assertEqual((copies.at(2), copies.at(0), copies.stale()), ((0, (0, 1)), (0, (0, 1)), (1,)))
        self.assertIsNone(copies.lose(1))
        self.assertEqual((copies.at(1), copies.stale(), copies.agree(), copies.read()), (None, (), True, 0))
        self.refused(Empty, 1, copies.lose, 1)
        self.refused(Empty, 1, copies.spread, 0, 1)
        self.refused(Empty, 1, copies.spread, 1, 1)
        for stale in ((1,), (1, 2), (1, 2), (1, 2), (1, 2), (1,), (), ()):
            self.assertIsNone(copies.back())
            self.assertEqual(copies.stale(), stale)
        self.refused(NoDeed, (), copies.back)
        self.assertEqual((copies.read(), copies.at(1)), (None, None))

    def test_small_copies_deed_by_deed(self):
        chance = random.Random(212)
        for tower, many in SMALL:
            for time in range(3):
                copies, plain = Copies(tower, many), PlainCopies(tower, many)
                for deed in range(100):
                    self.do(copies, plain, self.drawn(many, chance))
                    self.look(copies, plain)

    def test_high_copies_deed_by_deed(self):
        chance = random.Random(213)
        for tower, many in HIGH:
            copies, plain = Copies(tower, many), PlainCopies(tower, many)
            for deed in range(150):
                self.do(copies, plain, self.drawn(many, chance))
                self.look(copies, plain)

    def test_four_hundred_deeds_and_all_of_them_taken_back(self):
        chance = random.Random(214)
        for tower, many in [SMALL[0], SMALL[7], SMALL[11], HIGH[0], HIGH[2]]:
            copies, plain = Copies(tower, many), PlainCopies(tower, many)
            while len(plain.past) < 400:
                word, arguments = self.drawn(many, chance)
                if word != "back":
                    self.do(copies, plain, (word, arguments))
            self.look(copies, plain)
            while plain.past:
                self.do(copies, plain, ("back", ()))
                self.look(copies, plain)
            self.refused(NoDeed, (), copies.back)

    def test_all_histories_of_few_places(self):
        for tower, many in [((RING,), 2), ((RING,), 1), ((TAILED,), 2), ((squares(7),), 2), ((line(2), RING), 2), ((RING, RING), 3)]:
            waiting, seen = collections.deque([(Copies(tower, many), PlainCopies(tower, many))]), {}
            while waiting:
                copies, plain = waiting.popleft()
                state = tuple(plain.at(place) and plain.at(place)[1] for place in range(many))
                if state in seen:
                    # By the marks alone: what is told is the same, whatever was done ahead.
                    self.assertEqual((copies.stale(), copies.agree()), seen[state])
                    continue
                seen[state] = copies.stale(), copies.agree()
                for deed in [("write", (place, 0)) for place in range(many)] + [("lose", (place,)) for place in range(many)] + [
                        ("spread", both) for both in itertools.product(range(many), repeat=2)]:
                    pair = copy.deepcopy((copies, plain))
                    self.do(*pair, deed)
                    self.look(*pair)
                    waiting.append(pair)

    def test_each_spread_is_a_deed(self):
        # To a place that holds nothing, an earlier one, a later one, the same one, and from a place to itself.
        for before, both, changed in [("0", (1, 0), True), ("01", (0, 1), True), ("01", (1, 0), False), ("0", (0, 0), False)]:
            copies = Copies((RING, RING), 2)
            for place in before:
                copies.write(int(place), int(place) + 7)
            state = copies.at(0), copies.at(1)
            self.assertIs(copies.spread(*both), changed)
            behind = copies.at(0), copies.at(1)
            self.assertEqual(behind != state, changed)
            self.assertIs(copies.spread(*both), False)
            copies.back()
            self.assertEqual((copies.at(0), copies.at(1)), behind)
            copies.back()
            self.assertEqual((copies.at(0), copies.at(1)), state)
            for place in before:
                copies.back()
            self.refused(NoDeed, (), copies.back)


class Refused(CopiesTests):
    def copies(self):
        copies = Copies((RING, RING), 3)
        copies.write(0, 4)
        copies.write(2, 5)
        return copies

    def state(self, copies):
        return [copies.at(place) for place in range(3)] + [copies.read(), copies.stale(), copies.agree()]

    def test_no_slot_of_anything_ahead_of_all_else(self):
        copies = self.copies()
        before = self.state(copies)
        for wrong in things() + WRONG_PLACES + [3, 4]:
            if type(wrong) is int and 0 <= wrong < 3:
                continue
            self.refused(NoSlot, wrong, copies.write, wrong, 1)
            self.refused(NoSlot, wrong, copies.write, wrong, None)
            self.refused(NoSlot, wrong, copies.lose, wrong)
            self.refused(NoSlot, wrong, copies.at, wrong)
            self.refused(NoSlot, wrong, copies.spread, wrong, 0)
            self.refused(NoSlot, wrong, copies.spread, wrong, 1)
            self.refused(NoSlot, wrong, copies.spread, wrong, 99)
            self.refused(NoSlot, wrong, copies.spread, 0, wrong)
            self.refused(NoSlot, wrong, copies.spread, 1, wrong)
        self.assertEqual(self.state(copies), before)

    def test_no_value_of_anything(self):
        copies = self.copies()
        before = self.state(copies)
        for wrong in WRONG_VALUES + [thing for thing in things() if type(thing) is not int] + [
                nested(1, lambda x: [x], 30), nested(1, lambda x: (x,), 30)]:
            for place in range(3):
                self.refused(NoValue, wrong, copies.write, place, wrong)
        self.assertEqual(self.state(copies), before)
        for right in (0, -1, 10 ** 59, -10 ** 59):
            copies.write(1, right)
            self.assertEqual((copies.read(), copies.at(1)[0]), (right, right))

    def test_empty_and_no_deed(self):
        copies = self.copies()
        before = self.state(copies)
        self.refused(Empty, 1, copies.spread, 0, 1)
        self.refused(Empty, 1, copies.spread, 1, 1)
        self.refused(Empty, 1, copies.lose, 1)
        self.assertEqual(self.state(copies), before)
        copies.back()
        copies.back()
        self.refused(NoDeed, (), copies.back)
        self.assertEqual(self.state(copies), [None] * 4 + [(), True])


class OfItsOwn(CopiesTests):
    def test_two_of_one_tower_beside_one_another(self):
        chance = random.Random(215)
        for tower, many in SMALL + HIGH[:2]:
            pairs = [(Copies(tower, many), PlainCopies(tower, many)) for copies in range(2)]
            for deed in range(60):
                copies, plain = chance.choice(pairs)
                self.do(copies, plain, self.drawn(many, chance))
                for copies, plain in pairs:
                    self.look(copies, plain)

    def test_by_names(self):
        copies = Copies(many=3, tower=(RING, RING))
        self.assertEqual(copies.write(value=4, place=1), (0, 0))
        self.assertIs(copies.spread(other=1, place=0), True)
        self.assertEqual(copies.at(place=0), (4, (0, 0)))
        self.assertIsNone(copies.lose(place=1))
        self.refused(NoSlot, 7, copies.spread, other=8, place=7)

    def test_asked_again_the_same_and_nothing_is_changed(self):
        tower = (RING, squares(7))
        before = repr(tower)
        copies = Copies(tower, 4)
        for place in (0, 3, 1):
            copies.write(place, place)
        copies.spread(2, 0)
        for ask in (copies.read, copies.stale, copies.agree, lambda: copies.at(2)):
            self.assertEqual(ask(), ask())
        thing = [[None], {"a": [0]}]
        for ask in (lambda: Copies(thing, 1), lambda: Copies(tower, thing), lambda: copies.write(thing, 1),
                    lambda: copies.write(0, thing), lambda: copies.spread(0, thing), lambda: copies.at(thing)):
            with self.assertRaises(MarkError):
                ask()
        self.assertEqual((repr(tower), thing), (before, [[None], {"a": [0]}]))


if __name__ == "__main__":
    unittest.main()
