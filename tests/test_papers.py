"""Point 8: papers."""

import itertools
import random
import unittest

from everlater.judging import book, rounds, serves
from everlater.papers import paper, shows_paper
from tests.plain import (RING, RING_TURNED, all_lots, apart, beside, line, nested, no_pairs, plain_above,
                         plain_is_paper, plain_leavings, plain_rows, some_lots, squares, things, within)

SLOTS = range(1, 6)
SMALL = [lot for many in range(4) for lot in all_lots(many)]
MIDDLE = [line(4), line(6), no_pairs(4), beside(RING, RING), apart(RING, RING_TURNED), apart(RING, line(2)),
          beside(line(2), RING), squares(7), within(RING, RING)]
MIDDLE += list(some_lots(4, 6, 81)) + list(some_lots(5, 6, 82)) + list(some_lots(6, 4, 83, 1))
ASKED = [(lot, n) for lot in SMALL + MIDDLE for n in SLOTS]
GREATER = [(squares(11), 3), (squares(11), 4), (squares(19), 4), (squares(19), 5), (beside(squares(7), RING), 3),
           (within(RING, line(4)), 3), (line(12), 4), (line(24), 3), (within(RING, squares(7)), 4)]


def some(of, chance, most=12):
    of = list(of)
    return of if len(of) <= most else chance.sample(of, most)


def rows_spoiled(told, chance):
    """Tuples of rows none of which is right in either paper's stead: a row twice, truths, lists, no marks."""
    for at in some(range(len(told)), chance):
        row, ahead, behind = told[at], told[:at], told[at + 1:]
        yield ahead + (row, row) + behind
        yield told + (row,)
        for wrong in (list(row), row + (0,), row + (None,), row[:-1] if row else None, (row,), str(row), None, 0, True):
            yield ahead + (wrong,) + behind
        for place, mark in enumerate(row):
            for wrong in [None, str(mark), (mark,), [mark], mark - 24, mark + 24] + [mark == 1] * (mark < 2):
                yield ahead + (row[:place] + (wrong,) + row[place + 1:],) + behind


def rows_changed(told, chance):
    """Tuples of rows that may be right or wrong: one left out, two exchanged, a mark one more or less."""
    for at in some(range(len(told)), chance):
        yield told[:at] + told[at + 1:]
    for at, other in some(itertools.combinations(range(len(told)), 2), chance):
        changed = list(told)
        changed[at], changed[other] = told[other], told[at]
        yield tuple(changed)
    for at in some(range(len(told)), chance):
        for place, step in itertools.product(range(len(told[at])), (-1, 1)):
            row = list(told[at])
            row[place] += step
            yield told[:at] + (tuple(row),) + told[at + 1:]
    yield tuple(reversed(told))
    yield ()


def grown_from(lot, kept, start, chance):
    """A right paper's rows out of the book: this row, and what comes of it by marks that are drawn."""
    found, waiting = {start}, [start]
    while waiting:
        row = waiting.pop()
        ways = [set(plain_leavings(row, mark)) for mark in plain_above(lot, row)]
        way = chance.choice([way for way in ways if way <= kept])
        waiting += sorted(way - found)
        found |= way
    return tuple(sorted(found))


def order_drawn(lot, n, chance):
    """All rows in another right order: of those that may come next one is drawn, again and again."""
    left, order = list(plain_rows(lot, n - 1)), []
    while left:
        free = [row for row in left
                if all(set(plain_leavings(row, mark)) & set(order) for mark in plain_above(lot, row))]
        order.append(chance.choice(free))
        left.remove(order[-1])
    return tuple(order)


class Paper(unittest.TestCase):
    def test_it_is_one_by_the_words_of_point_8_and_is_taken(self):
        for lot, n in ASKED + GREATER:
            told = paper(lot, n)
            self.assertTrue(plain_is_paper(lot, n, told), (lot, n))
            self.assertIs(shows_paper(lot, n, told), True, (lot, n))
            self.assertEqual(told[0], "serves" if serves(lot, n) else "fails")

    def test_all_are_tuples_and_the_word_is_a_text(self):
        for lot, n in ASKED + GREATER:
            told = paper(lot, n)
            self.assertEqual([type(one) for one in told], [str, tuple])
            self.assertIs(type(told), tuple)
            self.assertTrue(all(type(row) is tuple and len(row) == n - 1 for row in told[1]))

    def test_the_greatest_lots(self):
        for lot, n in [(line(24), n) for n in SLOTS] + [(squares(23), n) for n in SLOTS] + [(no_pairs(24), 2)]:
            self.assertIs(shows_paper(lot, n, paper(lot, n)), True)

    def test_no_marks_and_one_mark(self):
        self.assertEqual(paper(no_pairs(0), 1), ("fails", ((),)))
        self.assertEqual(paper(no_pairs(1), 1), ("serves", ((),)))
        self.assertEqual(paper(no_pairs(1), 2), ("fails", ((0,),)))
        for n in (2, 3, 4, 5):
            self.assertEqual(paper(no_pairs(0), n), ("fails", ()))
        for n in (3, 4, 5):
            self.assertEqual(paper(no_pairs(1), n), ("fails", ()))


class ShowsPaper(unittest.TestCase):
    def look(self, lot, n, thing):
        told = shows_paper(lot, n, thing)
        self.assertIs(told, plain_is_paper(lot, n, thing), (lot, n, repr(thing)[:300]))
        return told

    def test_the_other_word_and_other_words(self):
        for lot, n in ASKED:
            word, told = paper(lot, n)
            other = {"serves": "fails", "fails": "serves"}[word]
            self.assertIs(shows_paper(lot, n, (other, told)), False)
            for wrong in ("", "Serves", "FAILS", word + " ", word[:-1], None, True, False, 0, 1, (word,), [word], {word: 1}):
                self.assertIs(shows_paper(lot, n, (wrong, told)), False)

    def test_rows_that_are_none_or_twice(self):
        chance = random.Random(84)
        for lot, n in ASKED + GREATER[:5]:
            word, told = paper(lot, n)
            for wrong in rows_spoiled(told, chance):
                self.assertIs(shows_paper(lot, n, (word, wrong)), False, (lot, n, word, wrong))
                self.assertIs(plain_is_paper(lot, n, (word, wrong)), False)

    def test_rows_left_out_exchanged_changed(self):
        chance = random.Random(85)
        for lot, n in ASKED + GREATER[:4]:
            told = paper(lot, n)[1]
            for word, changed in itertools.product(("serves", "fails"), rows_changed(told, chance)):
                self.look(lot, n, (word, changed))

    def test_a_paper_that_fails_needs_all_rows(self):
        for lot, n in ASKED:
            word, told = paper(lot, n)
            if word == "fails":
                for at in range(min(len(told), 8)):
                    self.assertIs(shows_paper(lot, n, (word, told[:at] + told[at + 1:])), False)

    def test_lists_in_a_tuples_stead(self):
        for lot, n in ASKED:
            word, told = paper(lot, n)
            for wrong in ([word, told], (word, list(told)), (word, [list(row) for row in told]), {word: told},
                          (word, {row: True for row in told})):
                self.assertIs(shows_paper(lot, n, wrong), False)

    def test_its_length(self):
        for lot, n in ASKED:
            word, told = paper(lot, n)
            for wrong in ((), (word,), (told,), (word, told, ()), (word, told, told), (told, word), (word,) + told, word, told):
                self.assertIs(shows_paper(lot, n, wrong), False, (lot, n, wrong))

    def test_all_tuples_of_rows_of_small_lots(self):
        for lot, n in [(RING, 1), (RING, 2), (RING, 3), (line(2), 2), (line(3), 2), (line(3), 3), (no_pairs(3), 2),
                       ((3, ((1, 0), (2, 0))), 2), (no_pairs(0), 1), (no_pairs(0), 2), (no_pairs(2), 1)]:
            rows = plain_rows(lot, n - 1)
            for size in range(len(rows) + 2):
                for told in itertools.product(rows, repeat=size):
                    self.look(lot, n, ("serves", told))
                    self.look(lot, n, ("fails", told))

    def test_all_choices_of_rows_of_the_book(self):
        for lot, n in [(beside(RING, RING), 2), (squares(7), 2), (apart(RING, RING_TURNED), 2), (within(line(2), RING), 2)]:
            rows = plain_rows(lot, n - 1)
            right = [told for size in range(len(rows) + 1) for told in itertools.combinations(rows, size)
                     if self.look(lot, n, ("serves", told))]
            self.assertIn(book(lot, n), right)
            self.assertGreater(len(right), 1)

    def test_further_right_papers_that_serve(self):
        chance = random.Random(86)
        for lot, n in [(lot, n) for lot, n in ASKED + GREATER if serves(lot, n)]:
            kept = book(lot, n)
            self.assertIs(shows_paper(lot, n, ("serves", kept)), True)
            for start in some(kept, chance, 3):
                told = grown_from(lot, set(kept), start, chance)
                self.assertIs(shows_paper(lot, n, ("serves", told)), True)
                if len(told) > 1:
                    self.assertIs(shows_paper(lot, n, ("serves", told[1:] + told[:1])), False)

    def test_further_right_papers_that_fail(self):
        chance = random.Random(87)
        for lot, n in [(lot, n) for lot, n in ASKED + [(line(7), 3), (squares(11), 5)] if not serves(lot, n)]:
            going = tuple(row for going in rounds(lot, n) for row in reversed(going))
            self.assertIs(shows_paper(lot, n, ("fails", going)), True)
            for time in range(2 if len(going) < 60 else 0):
                self.assertIs(shows_paper(lot, n, ("fails", order_drawn(lot, n, chance))), True)

    def test_rows_of_a_line_in_the_wrong_order(self):
        self.assertIs(shows_paper(line(3), 2, ("fails", ((2,), (1,), (0,)))), True)
        for order in itertools.permutations(((0,), (1,), (2,))):
            self.assertIs(shows_paper(line(3), 2, ("fails", order)), order == ((2,), (1,), (0,)))

    def test_no_rows(self):
        self.assertIs(shows_paper(RING, 4, ("fails", ())), True)
        self.assertIs(shows_paper(RING, 4, ("serves", ())), False)
        self.assertIs(shows_paper(RING, 2, ("serves", ())), False)
        self.assertIs(shows_paper(no_pairs(0), 1, ("fails", ())), False)
        self.assertIs(shows_paper(no_pairs(2), 1, ("fails", ((),))), False)

    def test_things_of_any_kind(self):
        for lot, n in [(RING, 1), (RING, 2), (RING, 3), (RING, 4), (no_pairs(0), 1), (no_pairs(0), 3), (line(5), 3)]:
            for thing in things():
                self.assertIs(shows_paper(lot, n, thing), False)
                for word in ("serves", "fails"):
                    self.assertIs(shows_paper(lot, n, (word, thing)), False)
                    self.assertIs(shows_paper(lot, n, (word, (thing,))), False)
                    self.assertIs(shows_paper(lot, n, (word, ((thing,),))), False, (lot, n, word, thing))
                self.assertIs(shows_paper(lot, n, (thing, paper(lot, n)[1])), False)

    def test_deeply_nested(self):
        told = paper(RING, 2)
        for wrap in (lambda x: (x,), lambda x: [x], lambda x: ("serves", x), lambda x: ("serves", (x,)), lambda x: {1: x}):
            for depth in (1, 2, 14):
                self.assertIs(shows_paper(RING, 2, nested(told, wrap, depth)), False)


class HandedIn(unittest.TestCase):
    def test_by_names(self):
        for n in SLOTS:
            told = paper(lot=RING, n=n)
            self.assertEqual(told, paper(RING, n))
            self.assertEqual(told, paper(n=n, lot=RING))
            self.assertIs(shows_paper(lot=RING, n=n, thing=told), True)
            self.assertIs(shows_paper(thing=told[::-1], n=n, lot=RING), False)

    def test_asked_again_the_same_and_nothing_is_changed(self):
        for lot, n in ASKED:
            before = repr(lot)
            told = paper(lot, n)
            self.assertEqual(paper(lot, n), told)
            thing = ["serves", [list(row) for row in told[1]]]
            for wrong in (thing, ("serves", thing[1]), ("fails", tuple(thing[1]))):
                text = repr(wrong)
                self.assertIs(shows_paper(lot, n, wrong), shows_paper(lot, n, wrong))
                self.assertEqual(repr(wrong), text)
            self.assertEqual(repr(lot), before)

    def test_somewhat_beyond_the_limits_nothing_is_raised(self):
        for lot, n in [(RING, 0), (RING, 6), (no_pairs(0), 6), (line(26), 2), (no_pairs(26), 3)]:
            shows_paper(lot, n, paper(lot, n))


if __name__ == "__main__":
    unittest.main()
