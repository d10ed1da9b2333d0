"""Point 19: a cache; the whole's (g), as far as it tells of caches."""

import collections
import copy
import random
import unittest

from everlater.caches import Cache
from everlater.errors import BadMany, BadTower, MarkError, NoDeed, NoKey, NoReach, NoValue
from everlater.towers import order_in, reach_in
from tests.plain import (RING, PlainCache, Refusing, apart, beside, line, nested, no_pairs, outcome, some_lots,
                         squares, things, within)

# Of this lot some rows are not kept: marks that lead out of the book.
TAILED = beside(no_pairs(1), apart(RING, no_pairs(1)))
SMALL = [((RING,), 2), ((RING,), 1), ((no_pairs(1),), 1), ((line(4), no_pairs(2)), 1), ((TAILED,), 2), ((squares(7),), 3),
         ((squares(7),), 2), ((RING, RING), 3), ((RING, RING), 1), ((RING, TAILED), 3), ((RING, RING, RING), 4),
         ((squares(7), RING), 4), ((RING, squares(7)), 3), ((within(RING, RING),), 3)]
HIGH = [((RING,) * 40, 41), ((RING,) * 40, 6), ((squares(7),) * 40, 60), ((RING, squares(7), TAILED, line(2)) * 10, 31),
        ((no_pairs(1),) * 39 + (squares(7),), 3), (tuple(some_lots(8, 40, 201, 1)), 12)]
WRONG_KEYS = ["", "A", "aB", "a1", "1", "a b", " a", "a ", "abcdefghi", "a_", "a-b", "-", "~", "{", "`", "@", "z.", "a\n",
              0, 1, True, False, None, (), ("a",), ["a"], {"a": 1}, {}, 10 ** 59]
WRONG_VALUES = [True, False, None, "", "1", (), (1,), [], [1], {}, {1: 1}]


def key_of(number):
    return "abcdefgh"[:number % 8 + 1][::-1] if number < 8 else "zy" + "abcdefghijklmnopqrstuvwxyz"[number % 26] * (number // 26 + 1)


class Caches(Refusing):
    def look(self, cache, plain):
        self.assertEqual(cache.by_touch(), plain.by_touch())
        self.assertEqual(cache.marks(), plain.marks())
        self.assertTrue(type(cache.by_touch()) is tuple and type(cache.marks()) is tuple)
        self.assertEqual(len(cache), len(plain))

    def drawn(self, many, chance):
        word = chance.choices(["put", "ask", "look", "back"], [8, 6, 3, 3])[0]
        key = chance.choice(WRONG_KEYS) if chance.random() < 0.03 else key_of(chance.randrange(many + 2))
        value = chance.choice(WRONG_VALUES) if chance.random() < 0.03 else chance.randrange(-5, 10 ** 20)
        return word, {"put": (key, value), "ask": (key,), "look": (key,), "back": ()}[word]

    def do(self, cache, plain, deed):
        word, arguments = deed
        told = outcome(getattr(cache, word), *arguments)
        self.assertEqual(told, outcome(getattr(plain, word), *arguments), deed)
        return told


class Made(Caches):
    def test_the_order_of_the_refusals(self):
        bad_tower = (no_pairs(0),)
        self.refused(BadTower, bad_tower, Cache, bad_tower, 0)
        self.refused(BadTower, bad_tower, Cache, bad_tower, 61)
        self.refused(BadMany, 0, Cache, (RING,), 0)
        self.refused(BadMany, 61, Cache, (RING,), 61)
        for many in (3, 60):
            self.assertEqual(outcome(Cache, (RING,), many), ("NoReach", (2,)))

    def test_bad_towers(self):
        for thing in things() + [RING, [RING], (RING,) * 41, (RING, no_pairs(0)), (RING, None), ((25, ()),), ((True, ()),)]:
            self.refused(BadTower, thing, Cache, thing, 1)

    def test_bad_many(self):
        tower = (squares(7),) * 40
        for wrong in things() + [0, -1, 61, 10 ** 59, True, "1", (1,), [1]]:
            if type(wrong) is not int or not 1 <= wrong <= 60:
                self.refused(BadMany, wrong, Cache, tower, wrong)
        for many in (1, 60):
            self.assertEqual(len(Cache(tower, many)), 0)

    def test_no_reach(self):
        for tower, most in SMALL + HIGH:
            told = reach_in(tower)
            self.assertEqual(len(Cache(tower, min(told, 60))), 0)
            if told < 60:
                with self.assertRaises(NoReach) as caught:
                    Cache(tower, told + 1)
                self.assertEqual(caught.exception.reach, told)


class Deeds(Caches):
    def test_by_hand(self):
        cache = Cache((RING, RING), 2)
        self.assertEqual((cache.by_touch(), cache.marks(), len(cache)), ((), (), 0))
        self.assertIsNone(cache.put("a", 5))
        self.assertIsNone(cache.put("b", 0))
        self.assertEqual((cache.by_touch(), cache.marks(), len(cache)), (("a", "b"), ((0, 0), (0, 1)), 2))
        self.assertEqual(cache.ask("a"), 5)
        self.assertEqual((cache.by_touch(), cache.marks()), (("b", "a"), ((0, 1), (0, 2))))
        self.assertEqual(cache.put("c", -7), "b")
        self.assertEqual(cache.by_touch(), ("a", "c"))
        self.assertIsNone(cache.ask("b"))
        self.assertIsNone(cache.look("b"))
        self.assertEqual(cache.look("a"), 5)
        self.assertEqual(cache.by_touch(), ("a", "c"))
        self.assertIsNone(cache.put("a", 6))
        self.assertEqual((cache.by_touch(), cache.look("a"), len(cache)), (("c", "a"), 6, 2))
        for keys in (("a", "c"), ("b", "a"), ("a", "b"), ("a",), ()):
            self.assertIsNone(cache.back())
            self.assertEqual(cache.by_touch(), keys)
        self.refused(NoDeed, (), cache.back)

    def test_small_caches_deed_by_deed(self):
        chance = random.Random(202)
        for tower, many in SMALL:
            for time in range(3):
                cache, plain = Cache(tower, many), PlainCache(tower, many)
                for deed in range(100):
                    self.do(cache, plain, self.drawn(many, chance))
                    self.look(cache, plain)

    def test_high_caches_deed_by_deed(self):
        chance = random.Random(203)
        for tower, many in HIGH:
            cache, plain = Cache(tower, many), PlainCache(tower, many)
            for deed in range(150):
                self.do(cache, plain, self.drawn(many, chance))
                self.look(cache, plain)

    def test_four_hundred_deeds_and_all_of_them_taken_back(self):
        chance = random.Random(204)
        for tower, many in [SMALL[0], SMALL[7], SMALL[11], HIGH[0], HIGH[2]]:
            cache, plain = Cache(tower, many), PlainCache(tower, many)
            while len(plain.past) < 400:
                word, arguments = self.drawn(many, chance)
                if word != "back":
                    self.do(cache, plain, (word, arguments))
            self.look(cache, plain)
            while plain.past:
                self.do(cache, plain, ("back", ()))
                self.assertEqual((cache.by_touch(), len(cache)), (plain.by_touch(), len(plain)))
                for key in plain.rows:
                    self.assertEqual(cache.look(key), plain.look(key))
            self.refused(NoDeed, (), cache.back)

    def test_all_histories_of_small_caches(self):
        for tower, many in [((RING,), 2), ((RING,), 1), ((TAILED,), 2), ((squares(7),), 2), ((line(2), RING), 2), ((RING, RING), 2)]:
            waiting, seen = collections.deque([(Cache(tower, many), PlainCache(tower, many))]), {}
            while waiting:
                cache, plain = waiting.popleft()
                state = tuple(sorted(zip(cache.by_touch(), cache.marks())))
                if state in seen:
                    # By the marks alone: what is told is the same, whatever was done ahead.
                    self.assertEqual(cache.by_touch(), seen[state])
                    continue
                seen[state] = cache.by_touch()
                for deed in [(word, ("abcd"[at],) + (at,) * (word == "put")) for word in ("put", "ask") for at in range(many + 1)]:
                    pair = copy.deepcopy((cache, plain))
                    self.do(*pair, deed)
                    self.look(*pair)
                    waiting.append(pair)

    def test_put_of_a_key_that_has_a_row_when_the_cache_is_full(self):
        for tower, many in SMALL + HIGH:
            cache, plain = Cache(tower, many), PlainCache(tower, many)
            keys = [key_of(number) for number in range(many)]
            for key in keys:
                self.do(cache, plain, ("put", (key, 1)))
            for key in keys:
                self.assertIsNone(cache.put(key, 2))
                plain.put(key, 2)
                self.look(cache, plain)
            self.assertEqual(cache.by_touch(), tuple(keys))
            self.assertEqual(cache.put("q", 3), keys[0])
            self.assertEqual((len(cache), cache.look(keys[0]), cache.by_touch()), (many, None, tuple(keys[1:]) + ("q",)))

    def test_ask_of_a_key_without_a_row_is_no_deed(self):
        cache = Cache((RING, RING), 3)
        self.assertIsNone(cache.ask("a"))
        self.refused(NoDeed, (), cache.back)
        cache.put("a", 0)
        self.assertIsNone(cache.ask("b"))
        self.assertEqual(cache.look("a"), 0)
        self.assertIsNone(cache.back())
        self.assertEqual(len(cache), 0)
        self.refused(NoDeed, (), cache.back)

    def test_a_value_of_0_is_one(self):
        cache = Cache((RING,), 2)
        cache.put("a", 0)
        cache.put("b", 1)
        self.assertEqual(cache.ask("a"), 0)
        self.assertEqual(cache.by_touch(), ("b", "a"))
        cache.back()
        self.assertEqual(cache.by_touch(), ("a", "b"))

    def test_the_marks_make_a_row_in_the_order_of_touch(self):
        chance = random.Random(205)
        for tower, many in SMALL + HIGH:
            cache = Cache(tower, many)
            for deed in range(60):
                cache.put(key_of(chance.randrange(many + 3)), deed)
                self.assertEqual(order_in(tower, cache.marks()), cache.marks())


class Refused(Caches):
    def test_no_key_of_anything_ahead_of_no_value(self):
        cache = Cache((RING, RING), 2)
        cache.put("a", 1)
        before = cache.by_touch(), cache.marks()
        for wrong in WRONG_KEYS + [thing for thing in things() if not isinstance(thing, str)] + [
                nested("a", lambda x: [x], 30), nested("a", lambda x: (x,), 30)]:
            self.refused(NoKey, wrong, cache.put, wrong, 1)
            self.refused(NoKey, wrong, cache.put, wrong, None)
            self.refused(NoKey, wrong, cache.ask, wrong)
            self.refused(NoKey, wrong, cache.look, wrong)
        self.assertEqual((cache.by_touch(), cache.marks()), before)
        cache.back()
        self.refused(NoDeed, (), cache.back)

    def test_keys_that_are_right(self):
        for key in ("a", "z", "az", "abcdefgh", "zzzzzzzz", "mmmm"):
            cache = Cache((RING,), 1)
            self.assertIsNone(cache.put(key, 3))
            self.assertEqual((cache.ask(key), cache.by_touch()), (3, (key,)))

    def test_no_value_of_anything(self):
        cache = Cache((RING, RING), 2)
        cache.put("a", 1)
        before = cache.by_touch(), cache.marks()
        for wrong in WRONG_VALUES + [thing for thing in things() if type(thing) is not int] + [
                nested(1, lambda x: [x], 30), nested(1, lambda x: (x,), 30)]:
            for key in ("a", "b"):
                self.refused(NoValue, wrong, cache.put, key, wrong)
        self.assertEqual((cache.by_touch(), cache.marks(), cache.look("a")), before + (1,))
        for right in (0, -1, 10 ** 59, -10 ** 59):
            cache.put("a", right)
            self.assertEqual(cache.look("a"), right)


class OfItsOwn(Caches):
    def test_two_caches_of_one_tower_beside_one_another(self):
        chance = random.Random(206)
        for tower, many in SMALL + HIGH[:2]:
            pairs = [(Cache(tower, many), PlainCache(tower, many)) for cache in range(2)]
            for deed in range(60):
                cache, plain = chance.choice(pairs)
                self.do(cache, plain, self.drawn(many, chance))
                for cache, plain in pairs:
                    self.look(cache, plain)

    def test_by_names(self):
        cache = Cache(many=1, tower=(RING,))
        self.assertIsNone(cache.put(value=4, key="a"))
        self.assertEqual((cache.ask(key="a"), cache.look(key="a")), (4, 4))
        self.assertEqual(cache.put(key="b", value=5), "a")
        self.refused(NoKey, "", cache.put, value=None, key="")

    def test_asked_again_the_same_and_nothing_is_changed(self):
        tower = (RING, squares(7))
        before = repr(tower)
        cache = Cache(tower, 3)
        for number, key in enumerate(("a", "b", "c", "d", "b")):
            cache.put(key, number)
        for ask in (cache.by_touch, cache.marks, cache.__len__, lambda: cache.look("d"), lambda: cache.look("a")):
            self.assertEqual(ask(), ask())
        self.assertIs(type(len(cache)), int)
        thing = [[None], {"a": [0]}]
        for ask in (lambda: Cache(thing, 1), lambda: Cache(tower, thing), lambda: cache.put(thing, 1),
                    lambda: cache.put("a", thing), lambda: cache.ask(thing), lambda: cache.look(thing)):
            with self.assertRaises(MarkError):
                ask()
        self.assertEqual((repr(tower), thing), (before, [[None], {"a": [0]}]))


if __name__ == "__main__":
    unittest.main()
