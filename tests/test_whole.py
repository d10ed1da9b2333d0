"""Point 3, the whole: (a), (c) and (d) by lots and the judge; then (a) to (h) of drawn lots and towers, by all modules."""

import itertools
import random
import unittest

from everlater import making
from everlater.attacking import attack
from everlater.boards import Board
from everlater.caches import Cache
from everlater.copies import Copies
from everlater.desk import Desk
from everlater.giving import give, hold
from everlater.judging import book, hope, lasts, reach, rounds, serves
from everlater.leading import ceiling, is_leading
from everlater.lots import above, in_order, is_later, is_lot, rows
from everlater.papers import paper, shows_paper
from everlater.posts import Post
from everlater.reading import read_board, read_lot, read_row, read_tower
from everlater.showing import show_board, show_lot, show_mark, show_row, show_tower
from everlater.sparing import spare
from everlater.towerattack import attack_in, lasts_in
from everlater.towers import is_tower, later_in, many_in, order_in, reach_in
from tests.plain import (ENDLESS, RING, PlainBoard, PlainCache, PlainCopies, PlainPost, all_lots, apart, beside,
                         drawn_above_in, line, no_pairs, outcome, part, plain_say, renamed, some_lots, squares, with_more,
                         within)

SERVED = [(no_pairs(2), 1), (RING, 2), (beside(RING, line(2)), 2), (squares(7), 3), (within(RING, RING), 3),
          (apart(squares(7), RING), 3), (squares(11), 2)]
UNSERVED = [(no_pairs(0), 1), (no_pairs(2), 2), (line(5), 2), (line(5), 3), (RING, 3), (RING, 5), (squares(7), 4),
            (within(RING, line(2)), 3), (within(RING, RING), 4), (beside(RING, line(3)), 3)]
UNSERVED += [(lot, n) for lot in some_lots(6, 4, 61) for n in (3, 4)]


def others_of(held, slot):
    return tuple(mark for at, mark in enumerate(held) if at != slot and mark is not None)


def counted(told):
    return ENDLESS if told is None else told


class Hopes:
    """What the program tells of the hopes of a lot's rows, asked once each."""

    def __init__(self, lot, n):
        self.lot, self.n = lot, n
        self.told = {row: counted(hope(lot, n, row)) for size in range(n) for row in rows(lot, size)}

    def left_by(self, row, mark):
        """The least hope that a mark leaves, given behind the row."""
        if len(row) < self.n - 1:
            return self.told[row + (mark,)]
        left = [self.told[row[:at] + row[at + 1:] + (mark,)] for at in range(len(row))]
        return min(left, default=ENDLESS)

    def mark_held_out_longest(self, row):
        high = above(self.lot, row)
        return max(high, key=lambda mark: self.left_by(row, mark)) if high else None

    def slot_that_hurts_most(self, held):
        if None in held:
            return held.index(None)
        return min(range(len(held)), key=lambda slot: self.told[in_order(self.lot, others_of(held, slot))])


def deed_between(held, chance):
    """A slot takes what another one holds, or holds nothing."""
    slot, other = chance.randrange(len(held)), chance.randrange(len(held))
    held[slot] = held[other] if chance.random() < 0.7 else None


class Judged(unittest.TestCase):
    def test_a_row_of_the_book_always_has_a_mark_that_keeps_to_the_book(self):
        for lot, n in SERVED:
            kept = book(lot, n)
            self.assertNotEqual(kept, ())
            for row in kept:
                leaving = [[row[:at] + row[at + 1:] + (mark,) for at in range(len(row))] for mark in above(lot, row)]
                self.assertTrue(any(all(left in kept for left in way) for way in leaving), (lot, n, row))

    def test_served_slots_never_fail_whatever_is_written_taken_dropped(self):
        chance = random.Random(62)
        for lot, n in SERVED:
            self.assertIs(serves(lot, n), True)
            hopes, held = Hopes(lot, n), [None] * n
            for time in range(300):
                if chance.random() < 0.3:
                    deed_between(held, chance)
                slot = chance.randrange(n)
                row = in_order(lot, others_of(held, slot))
                self.assertIsNotNone(row)
                mark = hopes.mark_held_out_longest(row)
                self.assertTrue(all(is_later(lot, mark, other) for other in row))
                held[slot] = mark

    def writings_until_failing(self, lot, n, give, choose):
        """How many writings there are, with the one that fails; give tells a mark, None where it gives up."""
        held = [None] * n
        for writing in itertools.count(1):
            slot = choose(held)
            mark = give(in_order(lot, others_of(held, slot)))
            if mark is None:
                return writing
            held[slot] = mark
            self.assertLessEqual(writing, 1000)

    def test_whoever_gives_fails_within_lasts_writings(self):
        chance = random.Random(63)
        for lot, n in UNSERVED:
            hopes = Hopes(lot, n)

            def at_random(row):
                return chance.choice(above(lot, row) or (None,))

            def least(row):
                return min(above(lot, row), default=None)

            for give in [least, hopes.mark_held_out_longest] + [at_random] * 10:
                told = self.writings_until_failing(lot, n, give, hopes.slot_that_hurts_most)
                self.assertLessEqual(told, lasts(lot, n), (lot, n))

    def test_who_holds_out_longest_fails_at_the_last_of_these_only(self):
        for lot, n in UNSERVED:
            hopes = Hopes(lot, n)
            told = self.writings_until_failing(lot, n, hopes.mark_held_out_longest, hopes.slot_that_hurts_most)
            self.assertEqual(told, lasts(lot, n))

    def test_who_holds_out_longest_does_so_against_whatever_attack(self):
        chance = random.Random(64)
        for (lot, n), time in itertools.product(UNSERVED, range(20)):
            hopes, held = Hopes(lot, n), [None] * n
            for writing in range(lasts(lot, n) - 1):
                if chance.random() < 0.3:
                    deed_between(held, chance)
                slot = chance.randrange(n)
                held[slot] = hopes.mark_held_out_longest(in_order(lot, others_of(held, slot)))
                self.assertIsNotNone(held[slot], (lot, n))

    def test_all_rows_go_where_the_lot_does_not_serve(self):
        for lot, n in UNSERVED:
            self.assertEqual(book(lot, n), ())
            self.assertEqual(sorted(row for going in rounds(lot, n) for row in going), list(rows(lot, n - 1)))


class FewMarks(unittest.TestCase):
    def test_fewer_than_three_serve_no_two_slots(self):
        self.assertIs(serves(no_pairs(0), 1), False)
        for lot in [lot for many in range(3) for lot in all_lots(many)]:
            self.assertEqual([serves(lot, n) for n in (2, 3, 4, 5)], [False] * 4)
        serving = [lot for lot in all_lots(3) if serves(lot, 2)]
        self.assertEqual(serving, [(3, ((0, 1), (1, 2), (2, 0))), RING])

    def test_fewer_than_seven_serve_no_three_slots(self):
        found = [lot for many in (3, 4) for lot in all_lots(many)] + list(all_lots(5, always=True))
        for lot in found + list(some_lots(6, 500, 65, 1)) + list(some_lots(6, 100, 66)):
            self.assertIs(serves(lot, 3), False, lot)
        for left_out in range(7):
            self.assertIs(serves(part(squares(7), [mark for mark in range(7) if mark != left_out]), 3), False)

    def test_fewer_than_fifteen_serve_no_four_slots(self):
        found = list(some_lots(14, 10, 67, 1)) + [part(squares(19), list(range(start, start + 14))) for start in range(5)]
        for lot in found + [beside(squares(7), squares(7)), squares(11), within(RING, no_pairs(4))]:
            self.assertIs(serves(lot, 4), False, lot)

    def test_no_lot_serves_five_slots(self):
        for lot in list(some_lots(24, 3, 68, 1)) + [squares(23), within(squares(7), RING), line(24)]:
            self.assertIs(serves(lot, 5), False)


class PutTogether(unittest.TestCase):
    LOTS = [no_pairs(0), no_pairs(1), no_pairs(2), line(3), RING, squares(7), beside(RING, no_pairs(1)),
            apart(RING, line(2))] + list(some_lots(4, 4, 69)) + list(some_lots(5, 4, 70, 1))

    def test_within(self):
        for lot, other in itertools.product(self.LOTS, repeat=2):
            if 0 < lot[0] * other[0] <= 24:
                self.assertEqual(reach(within(lot, other)), reach(lot) + reach(other) - 1, (lot, other))

    def test_beside(self):
        for lot, other in itertools.product(self.LOTS, repeat=2):
            self.assertEqual(reach(beside(lot, other)), max(reach(lot), reach(other)), (lot, other))

    def test_a_part(self):
        chance = random.Random(71)
        for lot in self.LOTS + [squares(11), squares(19), within(RING, squares(7))]:
            for time in range(8):
                marks = sorted(chance.sample(range(lot[0]), chance.randrange(lot[0] + 1)))
                self.assertLessEqual(reach(part(lot, marks)), reach(lot))

    def test_led_into_another_one(self):
        chance = random.Random(72)
        for lot in self.LOTS + [squares(11)]:
            fewer = (lot[0], tuple(pair for pair in lot[1] if chance.random() < 0.9))
            self.assertLessEqual(reach(fewer), reach(lot))
            self.assertLessEqual(reach(within(no_pairs(2), lot)), reach(lot))
            names = list(range(lot[0]))
            chance.shuffle(names)
            self.assertEqual(reach(renamed(lot, names)), reach(lot))


DRAWN_LOTS = [lot for many in range(1, 10) for lot in some_lots(many, 3, 260 + many, 0.9)]
DRAWN_LOTS += list(with_more(RING, 2, 4, 270)) + list(with_more(squares(7), 2, 3, 271)) + list(some_lots(15, 2, 272, 1))


def drawn_towers(count, seed):
    chance = random.Random(seed)
    return [tuple(chance.choices(DRAWN_LOTS, k=chance.choice([1, 2, 2, 3, 5, 12, 40]))) for tower in range(count)]


DRAWN_TOWERS = drawn_towers(24, 273) + [(RING,) * 40, (squares(7),) * 30]


class AllOfLots(unittest.TestCase):
    def test_a_who_gives_as_give_tells_never_fails(self):
        chance = random.Random(274)
        for lot, n in itertools.product(DRAWN_LOTS, range(1, 6)):
            self.assertEqual(serves(lot, n), book(lot, n) != ())
            self.assertTrue(shows_paper(lot, n, paper(lot, n)))
            held = [None] * n
            for time in range(40 if serves(lot, n) else 0):
                if chance.random() < 0.3:
                    deed_between(held, chance)
                slot = chance.randrange(n)
                row = in_order(lot, others_of(held, slot))
                held[slot] = give(lot, n, row)
                self.assertTrue(all(is_later(lot, held[slot], other) for other in row))

    def test_a_else_whoever_gives_fails_and_hold_holds_out_longest(self):
        chance = random.Random(275)
        for lot, n in [(lot, n) for lot in DRAWN_LOTS for n in range(1, 6) if not serves(lot, n)]:
            for giver in (lambda row: hold(lot, n, row), lambda row: chance.choice(above(lot, row) or (None,))):
                held, writings = (None,) * n, 1
                while True:
                    slot = attack(lot, held)
                    mark = giver(in_order(lot, others_of(held, slot)))
                    if mark is None:
                        break
                    held = held[:slot] + (mark,) + held[slot + 1:]
                    writings += 1
                self.assertLessEqual(writings, lasts(lot, n))
            held = [None] * n
            for writing in range(lasts(lot, n) - 1):
                deed_between(held, chance)
                slot = chance.randrange(n)
                held[slot] = hold(lot, n, in_order(lot, others_of(held, slot)))
                self.assertIsNotNone(held[slot])

    def test_c_few_marks(self):
        for lot in DRAWN_LOTS:
            self.assertLessEqual(reach(lot), ceiling(lot[0]))
        for tower in DRAWN_TOWERS:
            self.assertLessEqual(reach_in(tower), ceiling(many_in(tower)))

    def test_d_put_together(self):
        chance = random.Random(276)
        for lot, other in itertools.product(DRAWN_LOTS, repeat=2):
            if lot[0] * other[0] <= 20:
                self.assertEqual(reach(making.within(lot, other)), reach(lot) + reach(other) - 1)
                self.assertEqual(reach_in((lot, other)), reach(making.within(lot, other)))
            if lot[0] + other[0] <= 20:
                both = making.beside(lot, other)
                self.assertEqual(reach(both), max(reach(lot), reach(other)))
                self.assertTrue(is_leading(lot, both, tuple(range(lot[0]))))
            led = tuple(chance.randrange(other[0]) for mark in range(lot[0]))
            if is_leading(lot, other, led):
                self.assertLessEqual(reach(lot), reach(other))
        for lot in DRAWN_LOTS:
            for n in range(1, reach(lot) + 1):
                staying = spare(lot, n)
                self.assertIs(serves(making.part(lot, staying), n), True)
                for left_out in staying:
                    self.assertIs(serves(making.part(lot, tuple(x for x in staying if x != left_out)), n), False)


class AllOfTowers(unittest.TestCase):
    """Of each promise: what is asked of the program, and of what is plain, told the same."""

    def play(self, real, plain, deeds, asked, drawn):
        for deed in range(deeds):
            word, arguments = drawn(plain)
            self.assertEqual(outcome(getattr(real, word), *arguments), outcome(getattr(plain, word), *arguments))
            for name in asked:
                self.assertEqual(getattr(real, name)(), getattr(plain, name)())

    def drawn(self, chance, words):
        """Draws a deed by its weight, with arguments drawn as told of each."""
        def draw(plain):
            word = chance.choices(list(words), [weight for weight, arguments in words.values()])[0]
            return word, tuple(argument(plain) for argument in words[word][1])
        return draw

    def test_b_reach_and_attack(self):
        chance = random.Random(277)
        for tower in DRAWN_TOWERS:
            self.assertEqual(reach_in(tower) - 1, sum(reach(lot) - 1 for lot in tower))
            if lasts_in(tower) > 300:
                continue
            held, writings = (None,) * (reach_in(tower) + 1), 1
            while True:
                slot = attack_in(tower, held)
                row = order_in(tower, tuple(mark for at, mark in enumerate(held) if at != slot and mark is not None))
                mark = drawn_above_in(tower, row, chance)
                if mark is None:
                    break
                held = held[:slot] + (mark,) + held[slot + 1:]
                writings += 1
            self.assertLessEqual(writings, lasts_in(tower))

    def test_e_boards(self):
        chance = random.Random(278)
        for tower in DRAWN_TOWERS:
            many = min(60, reach_in(tower))
            words = {"write": (10, [lambda plain: chance.randrange(many)]), "drop": (2, [lambda plain: chance.randrange(many)]),
                     "take": (3, [lambda plain: chance.randrange(many)] * 2), "back": (3, [])}
            self.play(Board(tower, many), PlainBoard(tower, many), 80, ["marks", "order", "oldest", "newest"],
                      self.drawn(chance, words))

    def test_f_posts(self):
        chance = random.Random(279)
        for tower in [tower for tower in DRAWN_TOWERS if reach_in(tower) > 1]:
            many = min(38, reach_in(tower) - 2)
            slot = (lambda plain: chance.randrange(many)) if many else (lambda plain: 0)
            words = {"give": (10, []), "keep": (5, [slot, lambda plain: chance.randrange(len(plain.under_way()) + 1)]),
                     "take": (2, [slot, slot]), "drop": (1, [slot]), "back": (3, [])}
            length = chance.choice([1, 2, 3, 10 ** 9])
            post, plain = Post(tower, length, many), PlainPost(tower, length, many)
            self.play(post, plain, 80, ["letters", "kept", "order", "live", "__len__"], self.drawn(chance, words))
            for (at, one), (other_at, other) in itertools.product(list(enumerate(plain.live()))[-20:], repeat=2):
                self.assertIs(post.is_later(one, other), at > other_at)

    def test_g_a_cache_and_copies(self):
        chance = random.Random(280)
        for tower in DRAWN_TOWERS:
            many = min(60, reach_in(tower))
            key = [lambda plain: "abcdefghijklmnopqrstuvwxyz"[chance.randrange(min(26, many + 2))]]
            value, place = [lambda plain: chance.randrange(9)], [lambda plain: chance.randrange(many)]
            words = {"put": (8, key + value), "ask": (6, key), "look": (3, key), "back": (3, [])}
            self.play(Cache(tower, many), PlainCache(tower, many), 80, ["by_touch", "marks", "__len__"], self.drawn(chance, words))
            words = {"write": (8, place + value), "spread": (8, place + place), "lose": (2, place), "at": (2, place), "back": (3, [])}
            self.play(Copies(tower, many), PlainCopies(tower, many), 80, ["read", "stale", "agree"], self.drawn(chance, words))

    def test_h_texts_and_the_desk(self):
        chance = random.Random(281)
        for tower in DRAWN_TOWERS:
            self.assertTrue(is_tower(tower) and all(is_lot(lot) for lot in tower))
            self.assertEqual(read_tower(show_tower(tower)), tower)
            for lot in tower:
                self.assertEqual(read_lot(show_lot(lot)), lot)
            many = min(60, reach_in(tower))
            board, plain = Board(tower, many), PlainBoard(tower, many)
            desk = Desk(show_board(board))
            for time in range(25):
                slot, other = chance.randrange(many), chance.randrange(many)
                self.assertEqual(desk.say(f"write {slot}"), show_mark(board.write(slot)))
                plain.write(slot)
                for said in (f"take {other} {slot}", f"drop {other}", "back", f"later {slot} {other}", f"next {other}", "order", "marks"):
                    self.assertEqual(outcome(desk.say, said), outcome(plain_say, plain, said))
                outcome(board.take, other, slot)
                self.assertEqual(desk.say("text").replace("/", "\n"), show_board(board))
                self.assertEqual(read_board(show_board(board)), board)
                row = order_in(tower, tuple(mark for mark in board.marks() if mark is not None))
                self.assertEqual(read_row(tower, show_row(row)), row)
                self.assertTrue(all(later_in(tower, y, x) for x, y in zip(row, row[1:])))


if __name__ == "__main__":
    unittest.main()
