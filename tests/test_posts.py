"""Point 18: posts; the whole's (f)."""

import collections
import copy
import itertools
import random
import unittest

from everlater.errors import (BadLine, BadMany, BadTower, Empty, MarkError, NoDeed, NoLetter, NoReach, NoSlot, NotLive)
from everlater.posts import Post
from everlater.towers import reach_in
from tests.plain import (RING, PlainPost, Refusing, apart, beside, line, nested, no_pairs, outcome, some_lots,
                         squares, things, within)

# Of this lot some rows are not kept: marks that lead out of the book.
TAILED = beside(no_pairs(1), apart(RING, no_pairs(1)))
LINES = (1, 2, 3, 7, 10 ** 9)
SMALL = [((RING,), 0), ((TAILED,), 0), ((squares(7),), 1), ((squares(7),), 0), ((RING, RING), 1), ((RING, TAILED), 1),
         ((RING, RING, RING), 2), ((squares(7), RING), 2), ((RING, squares(7)), 2), ((RING, RING, RING, RING), 3),
         ((within(RING, squares(7)),), 2)]
HIGH = [((RING,) * 40, 38), ((RING,) * 40, 5), ((squares(7),) * 40, 38), ((RING, squares(7), TAILED, line(2)) * 10, 29),
        ((no_pairs(1),) * 39 + (squares(7),), 1), (tuple(some_lots(8, 40, 191, 1)), 10)]
ARGUMENTS = {"give": 0, "keep": 2, "take": 2, "drop": 1, "back": 0}


class Posts(Refusing):
    def look(self, post, plain, most_pairs=60, chance=random.Random(192)):
        """All that is asked, beside the plain post; is_later of all two live letters, or of so many drawn pairs."""
        for name in ("letters", "kept", "order", "live"):
            told = getattr(post, name)()
            self.assertEqual(told, getattr(plain, name)(), name)
            self.assertIs(type(told), tuple)
        self.assertEqual(len(post), len(plain))
        live = list(enumerate(plain.live()))
        pairs = itertools.product(live, repeat=2)
        if len(live) ** 2 > most_pairs:
            pairs = [(chance.choice(live), chance.choice(live)) for time in range(most_pairs)]
        for (at, one), (other_at, other) in pairs:
            self.assertIs(post.is_later(one, other), at > other_at)

    def drawn(self, plain, chance, weights=(10, 6, 2, 2, 3)):
        """A deed, by a chance, now and then with slots or numbers that are none."""
        word = chance.choices(list(ARGUMENTS), weights)[0]
        many, under_way = len(plain.slots), len(plain.under_way())
        if chance.random() < 0.04:
            return word, tuple(chance.choice([-1, many, under_way, True, "0", None]) for at in range(ARGUMENTS[word]))
        if word == "keep":
            number = chance.choice([0, under_way - 1, chance.randrange(under_way)]) if under_way else 0
            return word, (chance.randrange(many) if many else 0, number)
        return word, tuple(chance.randrange(many) if many else 0 for at in range(ARGUMENTS[word]))

    def do(self, post, plain, deed):
        word, arguments = deed
        told = outcome(getattr(post, word), *arguments)
        self.assertEqual(told, outcome(getattr(plain, word), *arguments), deed)
        return told


class Made(Posts):
    def test_the_order_of_the_refusals(self):
        bad_tower = (no_pairs(0),)
        self.refused(BadTower, bad_tower, Post, bad_tower, 0, 39)
        self.refused(BadTower, bad_tower, Post, bad_tower, 1, 0)
        self.refused(BadLine, 0, Post, (no_pairs(1),), 0, 39)
        self.refused(BadMany, 39, Post, (no_pairs(1),), 1, 39)
        for many in (0, 38):
            with self.assertRaises(NoReach) as caught:
                Post((no_pairs(1),), 1, many)
            self.assertEqual(caught.exception.reach, 1)

    def test_bad_towers(self):
        for thing in things() + [RING, [RING], (RING,) * 41, (RING, no_pairs(0)), (RING, None), ((25, ()),), ((True, ()),)]:
            self.refused(BadTower, thing, Post, thing, 1, 0)

    def test_bad_lines(self):
        for wrong in things() + [0, -1, 10 ** 9 + 1, 10 ** 59, True, "1", (1,), [1]]:
            if type(wrong) is not int or not 1 <= wrong <= 10 ** 9:
                self.refused(BadLine, wrong, Post, (RING,), wrong, 0)
        for right in (1, 2, 10 ** 9 - 1, 10 ** 9):
            self.assertEqual(Post((RING,), right, 0).give(), ((0,), 0))

    def test_bad_many(self):
        for wrong in things() + [-1, 39, 40, 60, 10 ** 59, True, False, "1", (1,), [1]]:
            if type(wrong) is not int or not 0 <= wrong <= 38:
                self.refused(BadMany, wrong, Post, (RING,) * 40, 1, wrong)
        for right in (0, 1, 37, 38):
            self.assertEqual(Post((RING,) * 40, 1, right).kept(), (None,) * right)

    def test_no_reach(self):
        for tower, most in SMALL + HIGH:
            told = reach_in(tower)
            for many in range(39):
                if many + 2 > told:
                    with self.assertRaises(NoReach) as caught:
                        Post(tower, 3, many)
                    self.assertEqual(caught.exception.reach, told)
                    self.assertIs(type(caught.exception.reach), int)
                    break
            if 2 <= told <= 40:
                self.assertEqual(Post(tower, 3, told - 2).kept(), (None,) * (told - 2))
        for tower in ((no_pairs(1),), (line(24),), (no_pairs(3), line(2))):
            self.assertEqual(outcome(Post, tower, 1, 0), ("NoReach", (1,)))


class Deeds(Posts):
    def test_by_hand(self):
        post = Post((RING, RING), 2, 1)
        self.assertEqual((post.letters(), post.kept(), post.order(), post.live(), len(post)), ((), (None,), (), (), 0))
        self.assertEqual([post.give() for time in range(3)], [((0, 0), 0), ((0, 0), 1), ((0, 1), 0)])
        self.assertEqual(post.letters(), (((0, 0), 1), ((0, 1), 0)))
        self.assertIsNone(post.keep(0, 0))
        self.assertEqual((post.give(), post.give()), (((0, 1), 1), ((1, 0), 0)))
        self.assertEqual(post.live(), (((0, 0), 1), ((0, 1), 1), ((1, 0), 0)))
        self.assertEqual((post.kept(), post.order(), len(post)), ((((0, 0), 1),), ((0,),), 6))
        self.assertIs(post.is_later(((0, 1), 1), ((0, 0), 1)), True)
        self.assertIs(post.is_later(((0, 0), 1), ((0, 1), 1)), False)
        self.assertIs(post.is_later(((0, 0), 1), ((0, 0), 1)), False)
        gone = ((0, 0), 0)
        self.refused(NotLive, gone, post.is_later, gone, gone)
        self.assertIsNone(post.back())
        self.assertIsNone(post.back())
        self.assertEqual((post.letters(), len(post)), ((((0, 0), 1), ((0, 1), 0)), 4))
        self.assertIsNone(post.drop(0))
        self.refused(Empty, 0, post.drop, 0)
        self.refused(Empty, 0, post.take, 0, 0)

    def test_small_posts_deed_by_deed(self):
        chance = random.Random(193)
        for tower, many in SMALL:
            for length in LINES:
                post, plain = Post(tower, length, many), PlainPost(tower, length, many)
                for deed in range(80):
                    self.do(post, plain, self.drawn(plain, chance))
                    self.look(post, plain)

    def test_high_posts_deed_by_deed(self):
        chance = random.Random(194)
        for tower, many in HIGH:
            for length in (1, 2, 5, 10 ** 9):
                post, plain = Post(tower, length, many), PlainPost(tower, length, many)
                for deed in range(100):
                    self.do(post, plain, self.drawn(plain, chance))
                    if deed % 5 == 0:
                        self.look(post, plain, 30)

    def test_all_pairs_of_many_live_letters(self):
        for tower, many, length in [((RING,) * 40, 38, 1), ((RING,) * 40, 38, 3), ((squares(7), RING), 2, 60), ((RING,), 0, 90)]:
            post, plain = Post(tower, length, many), PlainPost(tower, length, many)
            for slot in range(many):
                for time in range(4):
                    self.do(post, plain, ("give", ()))
                self.do(post, plain, ("keep", (slot, len(plain.under_way()) - 1)))
            for time in range(100):
                self.do(post, plain, ("give", ()))
            self.look(post, plain, 10 ** 9)

    def test_four_hundred_deeds_and_all_of_them_taken_back(self):
        chance = random.Random(195)
        for (tower, many), length in [(SMALL[0], 1), (SMALL[4], 2), (SMALL[9], 3), (SMALL[8], 10 ** 9), (HIGH[0], 1),
                                      (HIGH[2], 4)]:
            post, plain = Post(tower, length, many), PlainPost(tower, length, many)
            states = []
            while len(post) < 400:
                before = post.letters(), post.kept()
                if self.do(post, plain, self.drawn(plain, chance, (10, 6, 2, 2, 0)))[0] == "told":
                    states.append(before)
            self.look(post, plain)
            for letters, kept in reversed(states):
                self.assertIsNone(post.back())
                plain.back()
                self.assertEqual((post.letters(), post.kept()), (letters, kept))
                if chance.random() < 0.1:
                    self.look(post, plain)
            self.refused(NoDeed, (), post.back)
            self.assertEqual((len(post), post.live(), post.give()[1]), (0, (), 0))

    def test_all_histories_of_small_posts(self):
        for tower, length, many in [((RING,), 1, 0), ((RING,), 2, 0), ((TAILED,), 2, 0), ((RING, RING), 1, 1),
                                    ((RING, RING), 2, 1), ((squares(7),), 1, 1), ((squares(7),), 2, 1)]:
            start = Post(tower, length, many), PlainPost(tower, length, many)
            waiting, seen = collections.deque([start]), {}
            while waiting:
                post, plain = waiting.popleft()
                state = post.letters(), post.kept()
                if state in seen:
                    # By the marks alone: what is told is the same, whatever was done ahead.
                    self.assertEqual((post.live(), post.order()), seen[state])
                    continue
                seen[state] = post.live(), post.order()
                for deed in [("give", ())] + [("drop", (slot,)) for slot in range(many)] + [
                        ("keep", both) for both in itertools.product(range(many), range(min(length, len(post.letters()))))]:
                    pair = copy.deepcopy((post, plain))
                    self.do(*pair, deed)
                    self.look(*pair)
                    waiting.append(pair)

    def test_a_letter_kept_long_after_it_is_no_more_under_way(self):
        for tower, length, many in [((squares(7),), 1, 1), ((RING, RING), 2, 1), ((RING,) * 40, 3, 38)]:
            post = Post(tower, length, many)
            first = post.give()
            post.keep(0, 0)
            for time in range(300):
                letter = post.give()
                self.assertIs(post.is_later(letter, first), True)
                self.assertIs(post.is_later(first, letter), False)
                self.assertEqual((post.live()[0], post.live()[-1]), (first, letter))
                self.assertEqual(len(post.letters()), min(length, time + 2))
            post.drop(0)
            self.refused(NotLive, first, post.is_later, first, letter)

    def test_back_across_the_place_where_a_new_mark_was_given(self):
        for length in (1, 2, 3):
            post, plain = Post((RING, RING, RING), length, 2), PlainPost((RING, RING, RING), length, 2)
            for step in range(20):
                self.do(post, plain, ("give", ()))
                if step % 5 == 3:
                    self.do(post, plain, ("keep", (step % 2, 0)))
            for step in range(30):
                self.do(post, plain, ("back", ()))
                self.look(post, plain)
                if step % 7 == 2 and len(post) > 2:
                    for time in range(3):
                        self.do(post, plain, ("give", ()))
                    for time in range(3):
                        self.do(post, plain, ("back", ()))
                        self.look(post, plain)

    def test_a_line_longer_than_all_that_is_given_has_one_mark(self):
        for length in (400, 10 ** 9):
            post = Post((RING,), length, 0)
            self.assertEqual([post.give() for time in range(300)], [((0,), place) for place in range(300)])
            self.assertEqual(post.letters(), tuple(((0,), place) for place in range(300)))
            self.assertIs(post.is_later(((0,), 299), ((0,), 7)), True)

    def test_a_line_of_one(self):
        post = Post((RING,), 1, 0)
        self.assertEqual([post.give() for time in range(5)], [((mark,), 0) for mark in (0, 1, 2, 0, 1)])
        self.assertEqual((post.letters(), post.live()), ((((1,), 0),), (((1,), 0),)))


class Refused(Posts):
    def post(self):
        """Under way are (0, 1) with places 0 and 1; slot 0 holds ((0, 0), 1), slot 1 nothing."""
        post = Post((RING, RING, RING), 2, 2)
        post.give()
        post.give()
        post.keep(0, 1)
        post.give()
        post.give()
        return post

    def state(self, post):
        return post.letters(), post.kept(), post.live(), post.order(), len(post)

    def test_no_slot_of_anything_ahead_of_all_else(self):
        post = self.post()
        before = self.state(post)
        for wrong in things() + [-1, 2, 38, True, False, "0", (0,), [0], {0: 0}, 10 ** 59]:
            if type(wrong) is int and 0 <= wrong < 2:
                continue
            self.refused(NoSlot, wrong, post.keep, wrong, 0)
            self.refused(NoSlot, wrong, post.keep, wrong, "x")
            self.refused(NoSlot, wrong, post.drop, wrong)
            self.refused(NoSlot, wrong, post.take, wrong, 0)
            self.refused(NoSlot, wrong, post.take, wrong, 1)
            self.refused(NoSlot, wrong, post.take, wrong, 99)
            self.refused(NoSlot, wrong, post.take, 0, wrong)
            self.refused(NoSlot, wrong, post.take, 1, wrong)
        self.assertEqual(self.state(post), before)
        post = Post((RING,), 3, 0)
        post.give()
        for ask in (lambda: post.keep(0, 0), lambda: post.take(0, 0), lambda: post.drop(0)):
            self.refused(NoSlot, 0, ask)

    def test_no_letter_of_anything(self):
        post = self.post()
        before = self.state(post)
        for wrong in things() + [-1, 2, 3, 38, True, False, "0", (0,), [0], ((0, 0), 1), 10 ** 59]:
            if type(wrong) is int and 0 <= wrong < 2:
                continue
            self.refused(NoLetter, wrong, post.keep, 0, wrong)
        self.assertEqual(self.state(post), before)
        self.refused(NoLetter, 0, Post((RING, RING), 5, 1).keep, 0, 0)

    def test_empty_and_no_deed(self):
        post = self.post()
        before = self.state(post)
        self.refused(Empty, 1, post.take, 0, 1)
        self.refused(Empty, 1, post.take, 1, 1)
        self.refused(Empty, 1, post.drop, 1)
        self.assertEqual(self.state(post), before)
        self.assertIsNone(post.take(0, 0))
        self.assertEqual(self.state(post), before[:4] + (6,))
        for time in range(6):
            post.back()
        self.refused(NoDeed, (), post.back)
        self.assertEqual(self.state(post), ((), (None, None), (), (), 0))

    def test_not_live_of_anything(self):
        post = self.post()
        before = self.state(post)
        live = ((0, 0, 1), 0)
        self.assertIn(live, post.live())
        for wrong in things() + [((0, 0, 0), 0), ((0, 0, 1), 2), ((0, 0, 2), 0), ((0, 0, 1), False), ((0, 0, 1), True),
                                 ((False, 0, 1), 0), ((0, 0, True), 0), ([0, 0, 1], 0), [(0, 0, 1), 0], [[0, 0, 1], 0],
                                 ((0, 0, 1),), ((0, 0, 1), 0, 0), (0, 0, 1), ((0, 1), 0), ((0, 0, 1), -1), ((0, 0, 1), None),
                                 ((0, 0, 1), "0"), ((0, 0, 1), (0,)), {0: 0}, ((), 0), ((0, 0, 24), 0), (None, 0), None,
                                 nested(live, lambda x: (x,), 27), ((0, 0, 1, 0), 0), ((0, 0, [1]), 0), ((0, 0, {}), 0)]:
            self.refused(NotLive, wrong, post.is_later, wrong, live)
            self.refused(NotLive, wrong, post.is_later, live, wrong)
            other = ["another one"]
            self.refused(NotLive, wrong, post.is_later, wrong, other)
            self.refused(NotLive, other, post.is_later, other, wrong)
        self.assertEqual(self.state(post), before)
        empty = Post((RING,), 1, 0)
        self.assertEqual(outcome(empty.is_later, ((0,), 0), 1), ("NotLive", (((0,), 0),)))

    def test_letters_no_more_live(self):
        chance = random.Random(196)
        for (tower, many), length in itertools.product(SMALL, (1, 2, 3)):
            post, plain = Post(tower, length, many), PlainPost(tower, length, many)
            for deed in range(60):
                self.do(post, plain, self.drawn(plain, chance))
                for letter in plain.all[-8:]:
                    if letter not in plain.live():
                        self.assertEqual(outcome(post.is_later, letter, letter), ("NotLive", (letter,)))


class OfItsOwn(Posts):
    def test_two_posts_of_one_tower_beside_one_another(self):
        chance = random.Random(197)
        for tower, many in SMALL + HIGH[:2]:
            pairs = [(Post(tower, length, many), PlainPost(tower, length, many)) for length in (2, 2, 3)]
            for deed in range(50):
                post, plain = chance.choice(pairs)
                self.do(post, plain, self.drawn(plain, chance))
                for post, plain in pairs:
                    self.assertEqual((post.letters(), post.kept(), len(post)), (plain.letters(), plain.kept(), len(plain)))

    def test_by_names(self):
        post = Post(many=2, line=3, tower=(RING, RING, RING))
        for time in range(4):
            post.give()
        self.assertIsNone(post.keep(number=2, slot=1))
        self.assertIsNone(post.take(other=1, slot=0))
        self.assertIsNone(post.drop(slot=1))
        self.assertEqual(post.kept(), (((0, 0, 1), 0), None))
        self.assertIs(post.is_later(other=post.letters()[0], one=post.letters()[1]), True)
        with self.assertRaises(BadLine):
            Post(tower=(RING,), line=0, many=0)

    def test_asked_again_the_same_and_nothing_is_changed(self):
        tower = (RING, squares(7))
        before = repr(tower)
        post = Post(tower, 2, 2)
        for time in range(5):
            post.give()
        post.keep(1, 0)
        for ask in (post.letters, post.kept, post.order, post.live, post.__len__):
            self.assertEqual(ask(), ask())
        self.assertIs(type(len(post)), int)
        thing = [[None], {"a": [0]}]
        for ask in (lambda: Post(thing, 1, 1), lambda: Post(tower, thing, 1), lambda: Post(tower, 1, thing),
                    lambda: post.keep(thing, 0), lambda: post.keep(0, thing), lambda: post.is_later(thing, thing)):
            with self.assertRaises(MarkError):
                ask()
        self.assertEqual((repr(tower), thing), (before, [[None], {"a": [0]}]))


if __name__ == "__main__":
    unittest.main()
