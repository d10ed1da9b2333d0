"""Point 17: boards; the whole's (b) and (e)."""

import itertools
import random
import unittest

from everlater.boards import Board
from everlater.errors import BadMany, BadTower, Empty, MarkError, NoDeed, NoReach, NoSlot, NotHeld
from everlater.towergiving import give_in, is_kept_in
from everlater.towers import order_in, reach_in
from tests.plain import (RING, PlainBoard, Refusing, apart, beside, line, nested, no_pairs, outcome, plain_is_kept_in,
                         plain_is_row_in, plain_marks, some_lots, squares, things, within)

# Of these lots some rows are not kept: marks that lead out of the book.
TAILED = beside(no_pairs(1), apart(RING, no_pairs(1)))
LED_OUT = (4, ((0, 1), (1, 3), (2, 1), (3, 2)))
SMALL = [((RING,), 2), ((RING,), 1), ((line(3),), 1), ((no_pairs(1),), 1), ((no_pairs(2), no_pairs(3)), 1), ((TAILED,), 2),
         ((squares(7),), 3), ((squares(7),), 2), ((RING, RING), 3), ((RING, RING), 2), ((RING, line(2)), 2),
         ((line(2), RING), 2), ((TAILED, RING), 3), ((RING, LED_OUT), 3), ((RING, no_pairs(2), RING), 3),
         ((RING, RING, RING), 4), ((squares(7), RING), 4), ((RING, squares(7)), 4), ((within(RING, RING),), 3)]
HIGH = [((RING,) * 40, 41), ((RING,) * 40, 7), ((squares(7),) * 40, 60), ((RING, squares(7), TAILED, line(2)) * 10, 31),
        ((no_pairs(1),) * 39 + (squares(7),), 3), ((squares(19),) * 2 + (no_pairs(2),) * 38, 7),
        (tuple(some_lots(8, 40, 181, 1)), 12)]


class Boards(Refusing):
    def look(self, board, plain, slots=None):
        """All that is asked, beside the plain board; next_mark of these slots, else of all."""
        many = len(plain.slots)
        self.assertEqual(board.marks(), plain.marks())
        self.assertIs(type(board.marks()), tuple)
        self.assertEqual(board.order(), plain.order())
        self.assertTrue(type(board.order()) is tuple and all(type(group) is tuple for group in board.order()))
        self.assertEqual((board.oldest(), board.newest()), (plain.oldest(), plain.newest()))
        self.assertEqual(board.its_tower(), plain.its_tower())
        self.assertEqual(len(board), len(plain))
        for slot in range(many) if slots is None else slots:
            self.assertEqual(board.next_mark(slot), plain.next_mark(slot))

    def drawn(self, many, chance):
        """A deed, by a chance, now and then with slots that are none."""
        def slot():
            return chance.choice([-1, many, True, "0"]) if chance.random() < 0.03 else chance.randrange(many)
        word = chance.choices(["write", "take", "drop", "back"], [10, 4, 2, 4])[0]
        return word, tuple(slot() for argument in range({"write": 1, "take": 2, "drop": 1, "back": 0}[word]))

    def do(self, board, plain, deed):
        word, slots = deed
        told = outcome(getattr(board, word), *slots)
        self.assertEqual(told, outcome(getattr(plain, word), *slots), deed)
        return told


class Made(Boards):
    def test_the_order_of_the_refusals(self):
        bad_tower, bad_many, bad_held = (no_pairs(0),), 0, [None]
        self.refused(BadTower, bad_tower, Board, bad_tower, bad_many, held=bad_held)
        self.refused(BadTower, bad_tower, Board, bad_tower, 61)
        self.refused(BadMany, bad_many, Board, (RING,), bad_many, held=bad_held)
        self.refused(BadMany, 61, Board, (RING,), 61, held=bad_held)
        for many in (3, 60):
            with self.assertRaises(NoReach) as caught:
                Board((RING,), many, held=bad_held)
            self.assertEqual(caught.exception.reach, 2)
        self.refused(NotHeld, bad_held, Board, (RING,), 2, held=bad_held)

    def test_bad_towers(self):
        for thing in things() + [RING, [RING], (RING,) * 41, (RING, no_pairs(0)), (RING, None), ((25, ()),), [(RING,)],
                                 ((True, ()),), ((RING,),), ((3, list(RING[1])),), (RING, [3, RING[1]])]:
            self.refused(BadTower, thing, Board, thing, 1)

    def test_bad_many(self):
        tower = (squares(7),) * 40
        for wrong in things() + [0, -1, 61, 62, 10 ** 59, -10 ** 59, "1", (1,), [1], "", "60"]:
            if type(wrong) is not int or not 1 <= wrong <= 60:
                self.refused(BadMany, wrong, Board, tower, wrong)
                self.refused(BadMany, wrong, Board, (RING,), wrong)
        for many in (1, 2, 59, 60):
            self.assertEqual(Board(tower, many).marks(), (None,) * many)

    def test_no_reach(self):
        for tower, most in SMALL + HIGH:
            told = reach_in(tower)
            if told < 60:
                for many in (told + 1, told + 2, 60):
                    with self.assertRaises(NoReach) as caught:
                        Board(tower, many)
                    self.assertEqual(caught.exception.reach, told)
                    self.assertIs(type(caught.exception.reach), int)
            self.assertEqual(len(Board(tower, min(told, 60)).marks()), min(told, 60))

    def test_held_is_told_by_its_name_alone(self):
        with self.assertRaises(TypeError):
            Board((RING,), 2, (None, None))
        for board in (Board((RING,), 2), Board((RING,), 2, held=None), Board((RING,), 2, held=(None, None)),
                      Board(many=2, tower=(RING,)), Board(held=None, tower=(RING,), many=2)):
            self.assertEqual(board.marks(), (None, None))
            self.refused(NoDeed, (), board.back)

    def test_held_of_all_kinds_on_small_boards(self):
        seen = {True: 0, False: 0}
        for tower, many in [one for one in SMALL if (len(plain_marks(one[0])) + 1) ** one[1] < 3000]:
            for held in itertools.product([None] + plain_marks(tower), repeat=many):
                rows = [row for row in itertools.permutations(set(held) - {None}) if plain_is_row_in(tower, row)]
                kept = bool(rows) and plain_is_kept_in(tower, rows[0])
                seen[kept] += 1
                if kept:
                    self.look(Board(tower, many, held=held), PlainBoard(tower, many, held))
                else:
                    self.refused(NotHeld, held, Board, tower, many, held=held)
        self.assertGreater(min(seen.values()), 300)

    def test_held_by_hand(self):
        tower = (RING, RING)
        board = Board(tower, 3, held=((0, 1), None, (0, 1)))
        self.assertEqual((board.marks(), board.order(), len(board)), (((0, 1), None, (0, 1)), ((0, 2),), 2))
        board = Board(tower, 3, held=((1, 0), (0, 1), (0, 1)))
        self.assertEqual(board.order(), ((1, 2), (0,)))
        self.assertEqual(Board((RING,) * 40, 41, held=(None,) * 41).order(), ())
        for wrong in (((0, 0), (1, 0), (2, 0)), ((0, 0), (0, 1), (0, 2)), ((0, 0), (0, 1)), ((0, 0),) * 4, (), (None,) * 2,
                      (None,) * 4):
            self.refused(NotHeld, wrong, Board, tower, 3, held=wrong)
        for wrong in (((4,), None), (None, (4,)), ((0,), (4,)), ((4,), (4,))):
            self.refused(NotHeld, wrong, Board, (TAILED,), 2, held=wrong)
        self.assertEqual(Board((TAILED,), 2, held=((1,), (2,))).order(), ((0,), (1,)))
        self.assertIs(is_kept_in((TAILED,), ((4,),)), False)

    def test_held_of_anything(self):
        tower = (RING, RING)
        for wrong in things() + [[None] * 3, [(0, 0), None, None], ((0, 0), None, [0, 1]), ((0, 0), None, ()), {0: None},
                                 ((0, True), None, None), ((False, 0), None, None), ((0, 3), None, None), ((0,), None, None),
                                 ((0, 0, 0), None, None), (0, None, None), (True, None, None), "---", ("-", None, None),
                                 ((-1, 0), None, None), (((0, 0),), None, None), nested((None,) * 3, lambda x: (x,), 29)]:
            if wrong is not None:
                self.refused(NotHeld, wrong, Board, tower, 3, held=wrong)
                self.refused(NotHeld, wrong, Board, (RING,) * 40, 41, held=wrong)
            if wrong is not None and type(wrong) is not int:
                thing = (None, wrong, None)
                self.refused(NotHeld, thing, Board, tower, 3, held=thing)


class Deeds(Boards):
    def test_by_hand(self):
        board = Board((RING, RING), 3)
        self.assertEqual((board.oldest(), board.newest(), board.order(), len(board)), (None, None, (), 0))
        self.assertEqual(board.write(1), (0, 0))
        self.assertEqual(board.write(0), (0, 1))
        self.assertEqual(board.next_mark(2), (1, 0))
        self.assertEqual(board.next_mark(1), (0, 2))
        self.assertIsNone(board.take(2, 0))
        self.assertEqual((board.marks(), board.order()), (((0, 1), (0, 0), (0, 1)), ((1,), (0, 2))))
        self.assertEqual((board.oldest(), board.newest(), len(board)), (1, 0, 3))
        self.assertIsNone(board.drop(1))
        self.assertEqual((board.oldest(), board.newest(), len(board)), (0, 0, 2))
        self.refused(Empty, 1, board.drop, 1)
        self.refused(Empty, 1, board.take, 0, 1)
        for order in (((1,), (0, 2)), ((1,), (0,)), ((1,),), ()):
            self.assertIsNone(board.back())
            self.assertEqual(board.order(), order)
        self.refused(NoDeed, (), board.back)
        self.assertEqual(board.write(2), (0, 0))

    def test_small_boards_deed_by_deed(self):
        chance = random.Random(182)
        for tower, many in SMALL:
            for time in range(3):
                board, plain = Board(tower, many), PlainBoard(tower, many)
                for deed in range(80):
                    self.do(board, plain, self.drawn(many, chance))
                    self.look(board, plain)

    def test_high_boards_deed_by_deed(self):
        chance = random.Random(183)
        for tower, many in HIGH:
            board, plain = Board(tower, many), PlainBoard(tower, many)
            for deed in range(120):
                self.do(board, plain, self.drawn(many, chance))
                self.look(board, plain, [chance.randrange(many)])

    def test_four_hundred_deeds_and_all_of_them_taken_back(self):
        chance = random.Random(184)
        for tower, many in [SMALL[0], SMALL[8], SMALL[15], HIGH[0], HIGH[2]]:
            board, plain = Board(tower, many), PlainBoard(tower, many)
            states = []
            while len(states) < 400:
                deed = self.drawn(many, chance)
                before = board.marks()
                if deed[0] != "back" and self.do(board, plain, deed)[0] == "told":
                    states.append((before, board.marks()))
            self.look(board, plain, [0, many - 1])
            for before, behind in reversed(states):
                self.assertEqual(board.marks(), behind)
                self.assertIsNone(board.back())
                self.assertEqual(board.marks(), before)
                plain.back()
                if chance.random() < 0.2:
                    self.look(board, plain, [chance.randrange(many)])
            self.refused(NoDeed, (), board.back)
            self.assertEqual(board, Board(tower, many))

    def test_all_histories_of_small_boards(self):
        for tower, many in [one for one in SMALL if len(plain_marks(one[0])) <= 9 and one[1] <= 3]:
            start = ((None,) * many, (None,) * many)
            waiting, seen = [start], {start}
            while waiting:
                marks, whens = waiting.pop()
                for deed in [("write", (slot,)) for slot in range(many)] + [("drop", (slot,)) for slot in range(many)] \
                        + [("take", both) for both in itertools.permutations(range(many), 2)]:
                    board = Board(tower, many, held=marks)
                    plain = PlainBoard(tower, many)
                    plain.slots = [None if when is None else (when, mark) for mark, when in zip(marks, whens)]
                    plain.clock = many + 1
                    self.do(board, plain, deed)
                    self.look(board, plain, ())
                    ranks = sorted({one[0] for one in plain.slots if one is not None})
                    then = board.marks(), tuple(None if one is None else ranks.index(one[0]) for one in plain.slots)
                    if then not in seen:
                        seen.add(then)
                        waiting.append(then)

    def test_as_many_slots_as_the_reach_never_fail(self):
        chance = random.Random(185)
        for tower, many in SMALL + HIGH:
            board = Board(tower, min(reach_in(tower), 60))
            for time in range(150):
                slot = chance.randrange(len(board.marks()))
                others = tuple(mark for at, mark in enumerate(board.marks()) if at != slot and mark is not None)
                mark = board.write(slot)
                self.assertEqual(mark, give_in(tower, order_in(tower, others)))
                self.assertEqual(order_in(tower, others + (mark,)), order_in(tower, others) + (mark,))
                self.assertEqual(board.newest(), slot)

    def test_a_slot_takes_from_itself(self):
        board = Board((RING, RING), 3)
        board.write(1)
        before = board.marks()
        self.assertIsNone(board.take(1, 1))
        self.assertEqual(board.marks(), before)
        self.assertIsNone(board.back())
        self.assertEqual(board.marks(), before)
        board.back()
        self.assertEqual(board.marks(), (None,) * 3)
        self.refused(Empty, 2, board.take, 2, 2)
        self.refused(NoDeed, (), board.back)

    def test_deeds_again_behind_those_taken_back(self):
        board = Board((RING,), 2)
        board.write(0)
        board.write(1)
        board.back()
        board.take(1, 0)
        board.back()
        board.back()
        self.assertEqual(board.marks(), (None, None))
        self.refused(NoDeed, (), board.back)

    def test_no_slot_of_anything_ahead_of_all_else(self):
        board = Board((RING, RING), 3)
        board.write(1)
        before = board.marks()
        for wrong in things() + [-1, 3, 4, 60, True, False, "1", "", (1,), [1], {1: 1}, None, 10 ** 59]:
            if type(wrong) is int and 0 <= wrong < 3:
                continue
            for ask in (board.write, board.drop, board.next_mark):
                self.refused(NoSlot, wrong, ask, wrong)
            self.refused(NoSlot, wrong, board.take, wrong, 1)
            self.refused(NoSlot, wrong, board.take, 1, wrong)
            # The first that is none; and ahead of Empty(0).
            self.refused(NoSlot, wrong, board.take, wrong, 0)
            self.refused(NoSlot, wrong, board.take, wrong, 99)
            self.refused(NoSlot, wrong, board.take, 0, wrong)
            self.assertEqual(board.marks(), before)
        board.back()
        self.refused(NoDeed, (), board.back)

    def test_a_refusal_changes_nothing(self):
        chance = random.Random(186)
        for tower, many in SMALL + HIGH[:2]:
            board = Board(tower, many)
            for slot in range(0, many, 2):
                board.write(slot)
            before = board.marks(), board.order()
            for ask in (lambda: board.write(many), lambda: board.drop(-1), lambda: board.take(0, many),
                        lambda: board.take(None, 0), lambda: board.next_mark(True)):
                self.assertEqual(outcome(ask)[0], "NoSlot")
            if many > 1:
                self.refused(Empty, 1, board.drop, 1)
                self.refused(Empty, 1, board.take, chance.randrange(many), 1)
            self.assertEqual((board.marks(), board.order()), before)
            for slot in range(0, many, 2):
                board.back()
            self.refused(NoDeed, (), board.back)


class CopiedAndAlike(Boards):
    def test_copied_is_alike_of_its_own_and_without_deeds(self):
        chance = random.Random(187)
        for tower, many in SMALL + HIGH:
            board, plain = Board(tower, many), PlainBoard(tower, many)
            for deed in range(30):
                self.do(board, plain, self.drawn(many, chance))
            copy = board.copied()
            self.assertIs(type(copy), Board)
            self.assertIsNot(copy, board)
            self.assertEqual(copy, board)
            self.look(copy, plain, [0])
            self.refused(NoDeed, (), copy.back)
            before = board.marks()
            copy.write(0)
            copy.drop(0)
            self.assertEqual(board.marks(), before)
            copy.back()
            copy.back()
            board.write(many - 1)
            self.assertEqual(copy.marks(), before)

    def test_a_board_that_goes_on_from_held_answers_as_the_one_whose_marks_these_were(self):
        chance = random.Random(188)
        for tower, many in SMALL + HIGH:
            board, plain = Board(tower, many), PlainBoard(tower, many)
            for deed in range(25):
                self.do(board, plain, self.drawn(many, chance))
            other = Board(tower, many, held=board.marks())
            self.refused(NoDeed, (), other.back)
            for deed in range(25):
                word, slots = self.drawn(many, chance)
                if word != "back":
                    self.assertEqual(outcome(getattr(board, word), *slots), outcome(getattr(other, word), *slots))
                    outcome(getattr(plain, word), *slots)
                    self.assertEqual(board, other)
            self.look(other, plain, [0])

    def test_like_what(self):
        board = Board((RING, RING), 3)
        self.assertTrue(board == Board((RING, RING), 3) and not board != Board((RING, RING), 3))
        self.assertIs(board == Board((RING, RING), 3), True)
        board.write(0)
        board.write(1)
        board.back()
        alike = [Board((RING, RING), 3, held=((0, 0), None, None)), board.copied()]
        unlike = [Board((RING, RING), 3), Board((RING, RING), 2, held=((0, 0), None)),
                  Board((RING, line(2), RING), 3, held=((0, 0, 0), None, None)), Board((RING, RING), 3, held=(None, (0, 0), None)),
                  Board((RING, (3, ((0, 1), (1, 2), (2, 0)))), 3, held=((0, 0), None, None)),
                  Board((RING, RING), 3, held=((0, 1), None, None)), PlainBoard((RING, RING), 3)]
        for other in alike:
            self.assertIs(board == other, True)
            self.assertIs(board != other, False)
        for other in unlike + things() + [board.marks(), list(board.marks()), (RING, RING), Board]:
            self.assertIs(board == other, False)
            self.assertIs(other == board, False)
            self.assertIs(board != other, True)

    def test_two_boards_of_one_tower_beside_one_another(self):
        chance = random.Random(189)
        for tower, many in SMALL + HIGH[:3]:
            pairs = [(Board(tower, many), PlainBoard(tower, many)) for board in range(2)]
            for deed in range(40):
                board, plain = chance.choice(pairs)
                self.do(board, plain, self.drawn(many, chance))
                for board, plain in pairs:
                    self.assertEqual((board.marks(), board.order()), (plain.marks(), plain.order()))


class HandedIn(Boards):
    def test_by_names(self):
        board = Board(tower=(RING, RING), many=3, held=(None, (0, 0), None))
        self.assertEqual(board.write(slot=0), (0, 1))
        self.assertIsNone(board.take(other=0, slot=2))
        self.assertIsNone(board.drop(slot=1))
        self.assertEqual(board.marks(), ((0, 1), None, (0, 1)))
        self.assertEqual(board.next_mark(slot=1), (0, 2))
        self.refused(NoSlot, 7, board.take, other=8, slot=7)

    def test_asked_again_the_same_and_nothing_is_changed(self):
        tower, held = (RING, squares(7)), ((0, 1), None, (0, 1), (1, 0))
        before = repr((tower, held))
        board = Board(tower, 4, held=held)
        for ask in (board.marks, board.order, board.oldest, board.newest, board.its_tower, board.__len__, board.copied,
                    lambda: board.next_mark(1)):
            self.assertEqual(ask(), ask())
        self.assertEqual(board.marks(), held)
        self.assertIs(type(len(board)), int)
        board.write(1)
        board.drop(0)
        self.assertEqual(repr((tower, held)), before)
        thing = [[None], {"a": [0]}]
        for ask in (lambda: Board(thing, 1), lambda: Board(tower, thing), lambda: Board(tower, 2, held=thing),
                    lambda: board.write(thing), lambda: board.take(0, thing)):
            with self.assertRaises(MarkError):
                ask()
        self.assertEqual(thing, [[None], {"a": [0]}])


if __name__ == "__main__":
    unittest.main()
