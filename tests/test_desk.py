"""Point 23: a desk; the whole's (h)."""

import random
import unittest

from everlater.boards import Board
from everlater.desk import Desk
from everlater.errors import Empty, MarkError, NoDeed, NoLine, NoSlot, NoText
from everlater.showing import show_board, show_mark
from everlater.towerattack import lasts_in
from everlater.towers import many_in, reach_in
from tests.plain import (LINES, RING, PlainBoard, Refusing, apart, beside, line, nested, no_pairs, outcome, plain_say,
                         plain_show_board, some_lots, squares, things, within)

# Of this lot some rows are not kept: marks that lead out of the book.
TAILED = beside(no_pairs(1), apart(RING, no_pairs(1)))
SMALL = [((RING,), 2), ((RING,), 1), ((line(3),), 1), ((no_pairs(1),), 1), ((no_pairs(2), no_pairs(3)), 1), ((TAILED,), 2),
         ((squares(7),), 3), ((RING, RING), 3), ((RING, line(2)), 2), ((line(2), RING), 2), ((TAILED, RING), 3),
         ((RING, no_pairs(2), RING), 3), ((RING, RING, RING), 4), ((squares(7), RING), 4), ((within(RING, RING),), 3)]
HIGH = [((RING,) * 40, 41), ((RING,) * 40, 7), ((squares(7),) * 40, 60), ((RING, squares(7), TAILED, line(2)) * 10, 31),
        ((no_pairs(1),) * 39 + (squares(7),), 3), (tuple(some_lots(8, 40, 251, 1)), 12)]
ASKED = [word for word in LINES if word not in ("write", "take", "drop", "back")]
TEXT = plain_show_board((RING, RING), (None,) * 3)


def drawn_line(many, chance, words=tuple(LINES)):
    word = chance.choices(words, [{"write": 9, "take": 4, "drop": 2, "back": 4}.get(one, 1) for one in words])[0]
    slots = [chance.choice([many, 60, 999, 100]) if chance.random() < 0.03 else chance.randrange(many)
             for slot in range(LINES[word])]
    return " ".join([word] + [str(slot) for slot in slots])


class Desks(Refusing):
    def pair(self, tower, many, held=None):
        """A desk, and the plain board beside it."""
        held = (None,) * many if held is None else held
        return Desk(plain_show_board(tower, held)), PlainBoard(tower, many, held)

    def do(self, desk, plain, said):
        told = outcome(desk.say, said)
        self.assertEqual(told, outcome(plain_say, plain, said), said)
        if told[0] == "told":
            self.assertIs(type(told[1]), str)
        return told


class Made(Desks):
    def test_what_is_no_boards_text(self):
        for text, row in [("", 0), ("board 0", 0), ("board 1", 1), ("board 1\n-", 2), ("board 1\n-\nlot 0", 2), (TEXT + "\n", 11),
                          ("board 2\n- -\nlot 1", 3), (TEXT + "\nin", 12), (TEXT.replace("over", "under"), 3), ("lot 3", 0),
                          (TEXT.replace("\n", "/"), 0), ("board 3\n0.0 1.0 2.0\n" + TEXT.split("\n", 2)[2], 11)]:
            with self.assertRaises(NoText) as caught:
                Desk(text)
            self.assertIs(type(caught.exception), NoText)
            self.assertEqual(caught.exception.row, row, text)

    def test_things_of_any_kind(self):
        for thing in things() + [Board((RING,), 2), [TEXT], (TEXT,), {TEXT: 1}]:
            self.assertEqual(outcome(Desk, thing), ("NoText", (0,)))

    def test_held_at_first(self):
        desk, plain = self.pair((RING, RING), 3, ((0, 1), None, (0, 0)))
        for said in ("marks", "order", "newest", "oldest", "full", "later 0 2", "later 2 0", "text"):
            self.do(desk, plain, said)
        self.refused(NoDeed, (), desk.say, "back")


class Said(Desks):
    def test_by_hand(self):
        desk = Desk(TEXT)
        for said, told in [("marks", "- - -"), ("order", "-"), ("newest", "-"), ("oldest", "-"), ("full", "0"), ("next 2", "0.0"),
                           ("write 1", "0.0"), ("write 0", "0.1"), ("take 2 0", "done"), ("marks", "0.1 0.0 0.1"),
                           ("order", "1 0,2"), ("newest", "0"), ("oldest", "1"), ("full", "3"), ("next 1", "0.2"),
                           ("reach", "3"), ("lasts", "5"), ("many", "9"), ("lots", "2 2"), ("later 0 1", "yes"),
                           ("later 1 0", "no"), ("later 0 2", "no"), ("later 0 0", "no"), ("drop 1", "done"),
                           ("marks", "0.1 - 0.1"), ("back", "done"), ("back", "done"), ("marks", "0.1 0.0 -"),
                           ("text", "board 3/0.1 0.0 -/lot 3/0 over 2/1 over 0/2 over 1/in/lot 3/0 over 2/1 over 0/2 over 1")]:
            self.assertEqual(desk.say(said), told, said)

    def test_a_tower_of_one_lot(self):
        desk = Desk("board 1\n-\nlot 12\n1 over 0")
        for said, told in [("next 0", "0"), ("write 0", "0"), ("marks", "0"), ("order", "0"), ("lots", "1"), ("lasts", "3"),
                           ("many", "12"), ("reach", "1"), ("text", "board 1/0/lot 12/1 over 0"), ("later 0 0", "no")]:
            self.assertEqual(desk.say(said), told, said)

    def test_small_desks_line_by_line(self):
        chance = random.Random(252)
        for tower, many in SMALL:
            for time in range(2):
                desk, plain = self.pair(tower, many)
                for said in range(60):
                    self.do(desk, plain, drawn_line(many, chance))
                    for word in ASKED:
                        self.do(desk, plain, drawn_line(many, chance, (word,)))

    def test_high_desks_line_by_line(self):
        chance = random.Random(253)
        for tower, many in HIGH:
            desk, plain = self.pair(tower, many)
            for said in range(100):
                self.do(desk, plain, drawn_line(many, chance))
            for word in ASKED:
                self.do(desk, plain, drawn_line(many, chance, (word,)))

    def test_beside_a_board(self):
        chance = random.Random(254)
        for tower, many in SMALL + HIGH[:2]:
            board = Board(tower, many)
            desk = Desk(show_board(board))
            for time in range(30):
                slot, other = chance.randrange(many), chance.randrange(many)
                self.assertEqual(desk.say(f"next {slot}"), show_mark(board.next_mark(slot)))
                self.assertEqual(desk.say(f"write {slot}"), show_mark(board.write(slot)))
                self.assertEqual(outcome(desk.say, f"drop {other}")[0] == "told", outcome(board.drop, other)[0] == "told")
                self.assertEqual(desk.say("text").replace("/", "\n"), show_board(board))
                self.assertEqual(desk.say("full"), str(len(board)))
            self.assertEqual([desk.say(word) for word in ("reach", "lasts", "many")],
                             [str(told) for told in (reach_in(tower), lasts_in(tower), many_in(tower))])

    def test_four_hundred_deeds_and_all_of_them_taken_back(self):
        chance = random.Random(255)
        for tower, many in [SMALL[0], SMALL[7], SMALL[13], HIGH[0]]:
            desk, plain = self.pair(tower, many)
            while len(plain.past) < 400:
                self.do(desk, plain, drawn_line(many, chance, ("write", "take", "drop")))
            self.do(desk, plain, "text")
            while plain.past:
                self.do(desk, plain, "back")
                self.do(desk, plain, "marks")
            self.refused(NoDeed, (), desk.say, "back")

    def test_its_text_read_again_is_a_desk_that_answers_the_same(self):
        chance = random.Random(256)
        for tower, many in SMALL + HIGH:
            desk, plain = self.pair(tower, many)
            for said in range(30):
                self.do(desk, plain, drawn_line(many, chance))
            again = Desk(desk.say("text").replace("/", "\n"))
            self.refused(NoDeed, (), again.say, "back")
            for said in range(30):
                said = drawn_line(many, chance, [word for word in LINES if word != "back"])
                self.assertEqual(outcome(again.say, said), outcome(desk.say, said), said)


class Refused(Desks):
    def test_no_line_of_what_is_of_no_form(self):
        desk = Desk(TEXT)
        desk.say("write 1")
        before = desk.say("text")
        wrong = ["", " ", "  ", "\n", "-", "0", "1 write", "Write 0", "WRITE 0", "marks.", "mark", "mark s", "say", "write0", "held",
                 "len", "copied", "next_mark 0", "its_tower", "write\t0", "write 0\n", "\nwrite 0", "back\n", "write 0,1", "done"]
        for word, many in LINES.items():
            slots = [" 1"] * many
            right = word + "".join(slots)
            wrong += [right + " ", " " + right, right + " 1", right + "  ", right.upper(), right.capitalize(), right + " x",
                      right.replace(" ", "  "), "x " + right, right + "\n", right + " -", right + "/", right[1:]]
            wrong += [word + " 1" * count for count in range(4) if count != many]
            for spoilt in ("01", "00", "1000", "0000", "-1", "+1", "1.0", "x", "", "1x", "1,2", "10 00", "1_0", "007", "1 "):
                if many:
                    wrong += [word + " " + " ".join(["1"] * (many - 1) + [spoilt]), word + " " + " ".join([spoilt] + ["1"] * (many - 1))]
        for said in wrong:
            # Some of these are right again, such as one without a slot that had no blank to be put twice.
            if outcome(plain_say, PlainBoard((RING, RING), 3), said)[0] == "NoLine":
                self.refused(NoLine, said, desk.say, said)
        for said in ("write", "write 01", "take 1", "take 1 2 3", "later 1", "back 1", "text ", " marks", "next  1", "drop 1000"):
            self.refused(NoLine, said, desk.say, said)
        self.assertEqual(desk.say("text"), before)
        desk.say("back")
        self.refused(NoDeed, (), desk.say, "back")

    def test_no_line_of_anything(self):
        desk = Desk(TEXT)
        for thing in things() + [["write 0"], ("write", 0), {"back": 1}, None, True, 0, nested("back", lambda x: [x], 30)]:
            self.refused(NoLine, thing, desk.say, thing)
        self.assertEqual(desk.say("marks"), "- - -")

    def test_no_line_goes_ahead_of_all(self):
        desk = Desk(TEXT)
        for said in ("write 1000", "drop 9 9", "take 0 0001", "later 1000 0", "back 0", "next 03", "take 77 x"):
            self.refused(NoLine, said, desk.say, said)

    def test_no_slot(self):
        desk = Desk(TEXT)
        desk.say("write 0")
        for number in (3, 4, 10, 60, 99, 100, 999):
            for said in (f"write {number}", f"drop {number}", f"next {number}", f"take {number} 0", f"take 0 {number}",
                         f"take {number} 1", f"take 1 {number}", f"later {number} 0", f"later 0 {number}", f"later {number} 1",
                         f"later 1 {number}", f"take {number} 998", f"later {number} 998"):
                with self.assertRaises(NoSlot) as caught:
                    desk.say(said)
                self.assertIs(type(caught.exception), NoSlot)
                self.assertEqual(caught.exception.slot, number)
                self.assertIs(type(caught.exception.slot), int)
        self.assertEqual(desk.say("marks"), "0.0 - -")

    def test_empty_and_no_deed(self):
        desk = Desk(TEXT)
        self.refused(NoDeed, (), desk.say, "back")
        desk.say("write 0")
        for said, slot in [("drop 1", 1), ("take 0 1", 1), ("take 2 2", 2), ("later 0 1", 1), ("later 1 0", 1), ("later 2 1", 2),
                           ("later 1 2", 1), ("later 1 1", 1)]:
            with self.assertRaises(Empty) as caught:
                desk.say(said)
            self.assertIs(type(caught.exception), Empty)
            self.assertEqual(caught.exception.slot, slot)
        self.assertEqual(desk.say("back"), "done")
        self.refused(NoDeed, (), desk.say, "back")


class OfItsOwn(Desks):
    def test_two_desks_at_once(self):
        chance = random.Random(257)
        for tower, many in SMALL + HIGH[:2]:
            pairs = [self.pair(tower, many) for desk in range(2)]
            for said in range(40):
                desk, plain = chance.choice(pairs)
                self.do(desk, plain, drawn_line(many, chance))
                for desk, plain in pairs:
                    self.do(desk, plain, "marks")

    def test_by_names_and_asked_again(self):
        desk = Desk(text=TEXT)
        self.assertEqual(desk.say(line="write 2"), "0.0")
        for word in ASKED:
            said = word + " 2" * LINES[word]
            self.assertEqual(desk.say(said), desk.say(said))
        thing = [["write 0"], {"a": [0]}]
        with self.assertRaises(MarkError):
            desk.say(line=thing)
        self.assertEqual(thing, [["write 0"], {"a": [0]}])


if __name__ == "__main__":
    unittest.main()
