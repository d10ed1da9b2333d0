"""Lots for the tests, and the document's points played through plainly, without the program."""

import collections
import functools
import itertools
import math
import random
import re
import unittest

ENDLESS = math.inf


# Things of any kind.

def nested(start, wrap, depth):
    thing = start
    for step in range(depth):
        thing = wrap(thing)
    return thing


def things():
    """Things of any kind, made anew for each use; none of them is a lot, a row or anything else that is told of."""
    simple = [0, 1, -1, 24, 10 ** 59, True, False, None, "", "0", "01", [], [0], [0, 1], {}, {0: 1}, {"a": ()}]
    pairs = [(one, other) for one in simple for other in simple if isinstance(other, list) or isinstance(one, str)]
    wraps = (lambda x: (x,), lambda x: [x], lambda x: {0: x}, lambda x: (0, x), lambda x: (x, ()))
    deep = [nested(start, wrap, 30) for start in (0, True, (), (0, ())) for wrap in wraps]
    return simple + pairs + deep


def spoiled(row):
    """The row with lists, truths and other things in the stead of its own; none of these is a row."""
    yield list(row)
    yield row + (None,)
    yield row + (True,)
    yield row + (-1,)
    yield row + ([],)
    yield (row,)
    for at, mark in enumerate(row):
        ahead, behind = row[:at], row[at + 1:]
        for wrong in (mark - 30, mark + 30, None, str(mark), (mark,), [mark], {mark: mark}) + ((mark == 1,) * (mark < 2)):
            yield ahead + (wrong,) + behind
        yield ahead + (mark, mark) + behind


# Lots.

def line(many):
    return many, tuple((x, y) for x in range(many) for y in range(x))


def no_pairs(many):
    return many, ()


def squares(p):
    rests = {x * x % p for x in range(1, p)}
    return p, tuple((x, y) for x in range(p) for y in range(p) if (x - y) % p in rests)


RING = (3, ((0, 2), (1, 0), (2, 1)))
RING_TURNED = (3, ((0, 1), (1, 2), (2, 0)))


def beside(lot, other):
    many = lot[0]
    pairs = list(lot[1]) + [(x + many, y + many) for x, y in other[1]]
    pairs += [(x + many, y) for x in range(other[0]) for y in range(many)]
    return many + other[0], tuple(sorted(pairs))


def apart(lot, other):
    """Both lots in one, no mark of the one later than any of the other."""
    many = lot[0]
    return many + other[0], tuple(sorted(list(lot[1]) + [(x + many, y + many) for x, y in other[1]]))


def within(lot, other):
    many = other[0]
    marks = list(itertools.product(range(lot[0]), range(many)))
    pairs = [(a * many + b, c * many + d) for a, b in marks for c, d in marks
             if (a, c) in lot[1] or (a == c and (b, d) in other[1])]
    return lot[0] * many, tuple(sorted(pairs))


def part(lot, marks):
    pairs = [(marks.index(x), marks.index(y)) for x, y in lot[1] if x in marks and y in marks]
    return len(marks), tuple(sorted(pairs))


def renamed(lot, names):
    return lot[0], tuple(sorted((names[x], names[y]) for x, y in lot[1]))


def all_lots(many, always=False):
    """All lots of so many marks; with always, those only in which of any two marks one is later."""
    twos = list(itertools.combinations(range(many), 2))
    for ways in itertools.product((1, 2) if always else (0, 1, 2), repeat=len(twos)):
        pairs = [(x, y) if way == 1 else (y, x) for (x, y), way in zip(twos, ways) if way]
        yield many, tuple(sorted(pairs))


def some_lots(many, count, seed, share=0.9):
    """Lots of so many marks by a fixed seed; about this share of all pairs is there."""
    chance = random.Random(seed)
    for number in range(count):
        pairs = [two if chance.random() < 0.5 else two[::-1]
                 for two in itertools.combinations(range(many), 2) if chance.random() < share]
        yield many, tuple(sorted(pairs))


def with_more(lot, more, count, seed, share=0.95):
    """The lot with so many further marks behind its own, by a fixed seed; about this share of all pairs is there."""
    chance = random.Random(seed)
    for number in range(count):
        pairs = [two if chance.random() < 0.5 else two[::-1] for two in itertools.combinations(range(lot[0] + more), 2)
                 if two[1] >= lot[0] and chance.random() < share]
        yield lot[0] + more, tuple(sorted(list(lot[1]) + pairs))


# Point 4, by going through all orders. What is told of a lot again and again is kept, to save time.

@functools.cache
def pairs_of(lot):
    return frozenset(lot[1])


def plain_is_row(lot, row):
    pairs = pairs_of(lot)
    return all((row[b], row[a]) in pairs for b in range(len(row)) for a in range(b))


@functools.cache
def plain_rows(lot, size):
    return tuple(sorted(row for row in itertools.permutations(range(lot[0]), size) if plain_is_row(lot, row)))


def plain_above(lot, marks):
    pairs = pairs_of(lot)
    return tuple(x for x in range(lot[0]) if all((x, y) in pairs for y in marks))


def plain_in_order(lot, marks):
    found = [row for row in itertools.permutations(set(marks)) if plain_is_row(lot, row)]
    return found[0] if found else None


def parts(row):
    return {some for size in range(len(row) + 1) for some in itertools.combinations(row, size)}


# Point 6, round by round.

def plain_leavings(row, mark):
    return [tuple(x for x in row if x != out) + (mark,) for out in row]


@functools.cache
def plain_rounds(lot, n):
    """The rounds and the book."""
    staying, gone, told = set(plain_rows(lot, n - 1)), set(), []
    while True:
        going = {row for row in staying
                 if all(gone.intersection(plain_leavings(row, mark)) for mark in plain_above(lot, row))}
        if not going:
            return tuple(told), tuple(sorted(staying))
        told.append(tuple(sorted(going)))
        staying -= going
        gone |= going


def plain_book(lot, n):
    return plain_rounds(lot, n)[1]


@functools.cache
def plain_reach(lot):
    return max([n for n in range(1, 6) if plain_book(lot, n)], default=0)


# Point 7, by what it says of hopes alone: from endless ones down, until nothing changes.

def hope_once(lot, n, row, known):
    high = plain_above(lot, row)
    if not high:
        return len(row) + 1 - n
    if len(row) < n - 1:
        return max(known[row + (mark,)] for mark in high)
    return 1 + max(min([known[left] for left in plain_leavings(row, mark)], default=ENDLESS) for mark in high)


@functools.cache
def plain_hopes(lot, n):
    """The hope of each row of at most n - 1 marks."""
    kept = set().union(*[parts(row) for row in plain_rounds(lot, n)[1]])
    known = {row: ENDLESS for size in range(n) for row in plain_rows(lot, size)}
    changed = True
    while changed:
        new = {row: ENDLESS if row in kept else hope_once(lot, n, row, known) for row in known}
        changed = new != known
        known = new
    return {row: None if known[row] == ENDLESS else known[row] for row in known}


# Point 8, clause by clause.

def plain_is_rows(lot, n, thing):
    """Whether it is a tuple of rows of n - 1 marks."""
    if type(thing) is not tuple or any(type(row) is not tuple for row in thing):
        return False
    if any(type(mark) is not int for row in thing for mark in row):
        return False
    return set(thing) <= set(plain_rows(lot, n - 1))


def plain_is_paper(lot, n, thing):
    if type(thing) is not tuple or len(thing) != 2 or not plain_is_rows(lot, n, thing[1]):
        return False
    word, told = thing
    if word == "serves":
        return told != () and list(told) == sorted(set(told)) and all(
            any(set(plain_leavings(row, mark)) <= set(told) for mark in plain_above(lot, row)) for row in told)
    if word == "fails":
        place = {row: at for at, row in enumerate(told)}
        return sorted(told) == list(plain_rows(lot, n - 1)) and all(
            any(place[left] < place[row] for left in plain_leavings(row, mark))
            for row in told for mark in plain_above(lot, row))
    return False


# Points 9 and 10.

@functools.cache
def plain_is_kept(lot, n, row):
    """Of a row of the lot."""
    kept = plain_book(lot, n)
    if any(row in itertools.combinations(one, len(row)) for one in kept):
        return True
    return len(row) == n and all(left in kept for left in itertools.combinations(row, n - 1))


def plain_give(lot, n, row):
    return min(mark for mark in plain_above(lot, row) if plain_is_kept(lot, n, row + (mark,)))


def plain_hold(lot, n, row):
    known = {one: ENDLESS if told is None else told for one, told in plain_hopes(lot, n).items()}
    left = {}
    for mark in plain_above(lot, row):
        if len(row) < n - 1:
            left[mark] = known[row + (mark,)]
        else:
            left[mark] = min([known[one] for one in plain_leavings(row, mark)], default=ENDLESS)
    return min([mark for mark in left if left[mark] == max(left.values())], default=None)


# Point 13.

def plain_is_leading(lot, other, thing):
    """Of a tuple with a mark of the other for each mark of the lot."""
    return all((thing[x], thing[y]) in pairs_of(other) for x, y in itertools.product(range(lot[0]), repeat=2)
               if (x, y) in pairs_of(lot))


def plain_spare(lot, n):
    staying = list(range(lot[0]))
    for mark in reversed(range(lot[0])):
        fewer = [one for one in staying if one != mark]
        if plain_book(part(lot, fewer), n):
            staying = fewer
    return tuple(staying)


# Points 14 and 15, by their words.

def plain_marks(tower):
    return list(itertools.product(*[range(lot[0]) for lot in tower]))


def plain_later_in(tower, x, y):
    unlike = [place for place in range(len(tower)) if x[place] != y[place]]
    return bool(unlike) and (x[unlike[0]], y[unlike[0]]) in pairs_of(tower[unlike[0]])


def plain_is_row_in(tower, row):
    return all(plain_later_in(tower, row[b], row[a]) for b in range(len(row)) for a in range(b))


def plain_above_in(tower, marks):
    return [x for x in plain_marks(tower) if all(plain_later_in(tower, x, y) for y in marks)]


def all_rows_in(tower, size):
    """All rows of at most so many marks."""
    found, told = [((), plain_marks(tower))], [()]
    for step in range(size):
        found = [(row + (mark,), [x for x in high if plain_later_in(tower, x, mark)]) for row, high in found
                 for mark in high]
        told += [row for row, high in found]
    return told


def plain_reach_in(tower):
    return 1 + sum(plain_reach(lot) - 1 for lot in tower)


def outer_marks(row):
    return tuple(dict.fromkeys(mark[0] for mark in row))


def rests_of(row, outer):
    return tuple(mark[1:] for mark in row if mark[0] == outer)


def plain_is_kept_in(tower, row):
    """Of a row of the tower."""
    first, others = tower[0], tower[1:]
    if not others:
        return plain_is_kept(first, plain_reach(first), tuple(mark[0] for mark in row))
    return plain_is_kept(first, plain_reach(first), outer_marks(row)) and all(
        plain_is_kept_in(others, rests_of(row, outer)) for outer in outer_marks(row))


def plain_give_in(tower, row):
    """Of a kept row of fewer marks than the reach."""
    first, others = tower[0], tower[1:]
    if not others:
        return (plain_give(first, plain_reach(first), tuple(mark[0] for mark in row)),)
    if row == ():
        return (plain_give(first, plain_reach(first), ()),) + plain_give_in(others, ())
    last = outer_marks(row)[-1]
    if len(rests_of(row, last)) < plain_reach_in(others):
        return (last,) + plain_give_in(others, rests_of(row, last))
    return (plain_give(first, plain_reach(first), outer_marks(row)),) + plain_give_in(others, ())


# Point 5, played through: who gives against who chooses the slots.

def without(held, at):
    return held[:at] + held[at + 1:]


def slots_free_to_write(held, n):
    """What the other slots hold, for each slot that may be written. Slots are alike, so held is sorted."""
    others = {without(held, at) for at in range(len(held))}
    return others | ({held} if len(held) < n else set())


def written(lot, others):
    """What is held behind a writing that doesn't fail, for each mark that may be given."""
    return [tuple(sorted(others + (mark,))) for mark in plain_above(lot, others)]


def taken_or_dropped(held, n):
    """What may be held when a slot takes what another one holds, or is dropped."""
    found = {without(held, at) for at in range(len(held))}
    for others in slots_free_to_write(held, n):
        found |= {tuple(sorted(others + (mark,))) for mark in held}
    return found


def holdings(lot, n):
    """All that n slots can hold as long as no writing has failed; alike marks too."""
    found = set()
    for size in range(n + 1):
        for held in itertools.combinations_with_replacement(range(lot[0]), size):
            if plain_in_order(lot, held) is not None:
                found.add(held)
    return found


def writings_left(lot, n, moves_too):
    """Of all that n slots can hold: within how many writings whoever gives can be made to fail."""
    left = {held: ENDLESS for held in holdings(lot, n)}
    changed = True
    while changed:
        changed = False
        for held in left:
            found = [1 + max([left[then] for then in written(lot, others)], default=0)
                     for others in slots_free_to_write(held, n)]
            if moves_too:
                found += [left[then] for then in taken_or_dropped(held, n)]
            if min(found) < left[held]:
                left[held] = min(found)
                changed = True
    return left


def soonest_failing(lot, n, giver):
    """Within how many writings this giver can be made to fail, whatever is written, taken, dropped; ENDLESS if never.

    The giver tells a mark of the row of what the other slots hold, or None.
    """
    fewest, waiting = {(): 0}, collections.deque([()])
    while waiting:
        held = waiting.popleft()
        for then in taken_or_dropped(held, n):
            if fewest.get(then, ENDLESS) > fewest[held]:
                fewest[then] = fewest[held]
                waiting.appendleft(then)
        for others in slots_free_to_write(held, n):
            mark = giver(plain_in_order(lot, others))
            if mark not in plain_above(lot, others):
                return fewest[held] + 1
            then = tuple(sorted(others + (mark,)))
            if fewest.get(then, ENDLESS) > fewest[held] + 1:
                fewest[then] = fewest[held] + 1
                waiting.append(then)
    return ENDLESS


# Point 16.

def plain_lasts_in(tower):
    product = 1
    for lot in tower:
        n = plain_reach(lot) + 1
        product *= n + plain_hopes(lot, n)[()] - 1
    return product + 1


def drawn_above_in(tower, row, chance):
    """A mark later than all of the row, by a chance, None where there is none; without going through all marks."""
    if not tower:
        return None if row else ()
    first, others, outer = tower[0], tower[1:], outer_marks(row)
    found = [(x,) + tuple(chance.randrange(lot[0]) for lot in others) for x in plain_above(first, outer)]
    if outer and chance.random() < 0.8 or not found:
        rest = drawn_above_in(others, rests_of(row, outer[-1]), chance) if outer else None
        if rest is not None:
            return (outer[-1],) + rest
    return chance.choice(found) if found else None


# Points 17 to 20, by counting. What is refused is told by the refusal's name and its values.

class Refusal(Exception):
    def __init__(self, name, *values):
        self.name, self.values = name, values


def outcome(ask, *arguments, **named):
    """What is told, or which refusal with which values; alike for the program and for what is plain."""
    try:
        return "told", ask(*arguments, **named)
    except Refusal as refusal:
        return refusal.name, refusal.values
    except ValueError as error:
        return type(error).__name__, tuple(vars(error).values())


class Refusing(unittest.TestCase):
    def refused(self, kind, value, ask, /, *arguments, **named):
        """What is asked is refused by this kind, with the very value; () where the kind has none."""
        with self.assertRaises(kind) as caught:
            ask(*arguments, **named)
        self.assertIs(type(caught.exception), kind)
        for told in vars(caught.exception).values() or [()]:
            self.assertIs(told, value)


def is_plain_number(thing, start, end):
    return type(thing) is int and start <= thing < end


def need_slots(many, *slots):
    for slot in slots:
        if not is_plain_number(slot, 0, many):
            raise Refusal("NoSlot", slot)


class PlainSlots:
    """Slots that hold None or (when, thing); when rises with each writing or giving."""

    def __init__(self, tower, many):
        self.tower, self.slots, self.clock, self.past = tower, [None] * many, 0, []

    def remember(self):
        self.past.append(self.state())

    def state(self):
        return list(self.slots), self.clock

    def set_state(self, state):
        self.slots, self.clock = list(state[0]), state[1]

    def need_full(self, slot):
        if self.slots[slot] is None:
            raise Refusal("Empty", slot)

    def set_slot(self, slot, what):
        self.remember()
        self.slots[slot] = what

    def take(self, slot, other):
        need_slots(len(self.slots), slot, other)
        self.need_full(other)
        self.set_slot(slot, self.slots[other])

    def drop(self, slot):
        need_slots(len(self.slots), slot)
        self.need_full(slot)
        self.set_slot(slot, None)

    def back(self):
        if not self.past:
            raise Refusal("NoDeed")
        self.set_state(self.past.pop())

    def held(self):
        return tuple(None if one is None else one[1] for one in self.slots)

    def order(self):
        whens = sorted({one[0] for one in self.slots if one is not None})
        return tuple(tuple(slot for slot, one in enumerate(self.slots) if one is not None and one[0] == when)
                     for when in whens)


class PlainBoard(PlainSlots):
    def __init__(self, tower, many, held=None):
        super().__init__(tower, many)
        if held is not None:
            marks = {mark for mark in held if mark is not None}
            row = sorted(marks, key=lambda mark: sum(plain_later_in(tower, mark, other) for other in marks))
            self.slots = [None if mark is None else (row.index(mark), mark) for mark in held]
            self.clock = len(row)

    def next_mark(self, slot):
        need_slots(len(self.slots), slot)
        others = dict(one for at, one in enumerate(self.slots) if at != slot and one is not None)
        return plain_give_in(self.tower, tuple(others[when] for when in sorted(others)))

    def write(self, slot):
        mark = self.next_mark(slot)
        self.set_slot(slot, (self.clock, mark))
        self.clock += 1
        return mark

    def marks(self):
        return self.held()

    def oldest(self):
        return self.order()[0][0] if any(self.slots) else None

    def newest(self):
        return self.order()[-1][0] if any(self.slots) else None

    def its_tower(self):
        return self.tower

    def __len__(self):
        return sum(one is not None for one in self.slots)


class PlainPost(PlainSlots):
    """All letters that were given are kept in a list; the number of one there tells when it was given."""

    def __init__(self, tower, line, many):
        super().__init__(tower, many)
        self.line, self.all = line, []

    def state(self):
        return list(self.slots), self.clock, list(self.all)

    def set_state(self, state):
        self.slots, self.clock, self.all = list(state[0]), state[1], list(state[2])

    def under_way(self):
        return range(max(0, len(self.all) - self.line), len(self.all))

    def numbers(self):
        """The numbers of all live letters, rising."""
        return sorted(set(self.under_way()) | {one[0] for one in self.slots if one is not None})

    def give(self):
        self.remember()
        if self.all and self.all[-1][1] < self.line - 1:
            letter = self.all[-1][0], self.all[-1][1] + 1
        else:
            letter = plain_give_in(self.tower, tuple(dict.fromkeys(self.all[number][0] for number in self.numbers()))), 0
        self.all.append(letter)
        return letter

    def keep(self, slot, number):
        need_slots(len(self.slots), slot)
        if not is_plain_number(number, 0, len(self.under_way())):
            raise Refusal("NoLetter", number)
        self.set_slot(slot, (self.under_way()[number], self.all[self.under_way()[number]]))

    def letters(self):
        return tuple(self.all[number] for number in self.under_way())

    def kept(self):
        return self.held()

    def live(self):
        return tuple(self.all[number] for number in self.numbers())

    def __len__(self):
        return len(self.past)


class PlainCache:
    """Each key that has a row has (value, when it was touched, its mark)."""

    def __init__(self, tower, many):
        self.tower, self.many, self.rows, self.clock, self.past = tower, many, {}, 0, []

    def need_key(self, key):
        if type(key) is not str or not 1 <= len(key) <= 8 or set(key) - set("abcdefghijklmnopqrstuvwxyz"):
            raise Refusal("NoKey", key)

    def by_touch(self):
        return tuple(sorted(self.rows, key=lambda key: self.rows[key][1]))

    def marks(self):
        return tuple(self.rows[key][2] for key in self.by_touch())

    def touch(self, key, value):
        mark = plain_give_in(self.tower, tuple(self.rows[other][2] for other in self.by_touch() if other != key))
        self.rows[key] = value, self.clock, mark
        self.clock += 1

    def put(self, key, value):
        self.need_key(key)
        if type(value) is not int:
            raise Refusal("NoValue", value)
        self.past.append(dict(self.rows))
        gone = self.by_touch()[0] if key not in self.rows and len(self.rows) == self.many else None
        self.rows.pop(gone, None)
        self.touch(key, value)
        return gone

    def ask(self, key):
        self.need_key(key)
        if key not in self.rows:
            return None
        self.past.append(dict(self.rows))
        self.touch(key, self.rows[key][0])
        return self.rows[key][0]

    def look(self, key):
        self.need_key(key)
        return self.rows[key][0] if key in self.rows else None

    def back(self):
        if not self.past:
            raise Refusal("NoDeed")
        self.rows = self.past.pop()

    def __len__(self):
        return len(self.rows)


class PlainCopies(PlainSlots):
    """Each place holds None or (when it was written, value, mark)."""

    def write(self, place, value):
        need_slots(len(self.slots), place)
        if type(value) is not int:
            raise Refusal("NoValue", value)
        others = {one[0]: one[2] for at, one in enumerate(self.slots) if at != place and one is not None}
        mark = plain_give_in(self.tower, tuple(others[when] for when in sorted(others)))
        self.set_slot(place, (self.clock, value, mark))
        self.clock += 1
        return mark

    def spread(self, place, other):
        need_slots(len(self.slots), place, other)
        self.need_full(other)
        changed = self.slots[place] is None or self.slots[place][0] < self.slots[other][0]
        self.set_slot(place, self.slots[other] if changed else self.slots[place])
        return changed

    def lose(self, place):
        self.drop(place)

    def whens(self):
        return {one[0] for one in self.slots if one is not None}

    def read(self):
        return max([one for one in self.slots if one is not None], default=(None, None))[1]

    def at(self, place):
        need_slots(len(self.slots), place)
        return None if self.slots[place] is None else self.slots[place][1:]

    def stale(self):
        return tuple(place for place, one in enumerate(self.slots) if one is not None and one[0] < max(self.whens()))

    def agree(self):
        return len(self.whens()) < 2


# Point 21.

def plain_show_lot(lot):
    text = f"lot {lot[0]}"
    for mark in range(lot[0]):
        lower = sorted(y for x, y in lot[1] if x == mark)
        if lower:
            text += f"\n{mark} over"
            for y in lower:
                text += f" {y}"
    return text


def plain_show_tower(tower):
    text = plain_show_lot(tower[0])
    for lot in tower[1:]:
        text += "\nin\n" + plain_show_lot(lot)
    return text


def plain_show_mark(mark):
    return "-" if mark is None else str(mark)[1:-1].rstrip(",").replace(", ", ".")


def plain_show_held(held):
    return " ".join(map(plain_show_mark, held))


def plain_show_board(tower, held):
    return f"board {len(held)}\n{plain_show_held(held)}\n{plain_show_tower(tower)}"


# Point 22: a text is right where what is loosely read of it, shown, is just that text; so is each beginning of one.

NUMBER = r"(?:0|[1-9][0-9]*)"
MARK_WORD = rf"(?:-|{NUMBER}(?:\.{NUMBER})*)"


def plain_lot_of(rows):
    """The lot of these rows, None where they are no lot's text."""
    if not rows or not re.fullmatch(f"lot {NUMBER}", rows[0]):
        return None
    if not all(re.fullmatch(f"{NUMBER} over( {NUMBER})+", row) for row in rows[1:]):
        return None
    pairs = [(int(row.split()[0]), int(y)) for row in rows[1:] for y in row.split()[2:]]
    many = int(rows[0].split()[1])
    if many > 24 or any(x >= many or y >= many or x == y or (y, x) in pairs for x, y in pairs):
        return None
    lot = many, tuple(sorted(set(pairs)))
    return lot if plain_show_lot(lot) == "\n".join(rows) else None


def plain_lots_of(rows):
    """The lots of a tower's rows, None in the stead of each that is none, of each without marks too."""
    lots = [[]]
    for row in rows:
        if row == "in":
            lots.append([])
        else:
            lots[-1].append(row)
    found = [plain_lot_of(one) for one in lots]
    return [lot if lot is not None and lot[0] else None for lot in found]


def lot_may_go_on(rows):
    return plain_lot_of(rows) is not None


def tower_may_go_on(rows):
    lots = plain_lots_of(rows)
    return len(lots) <= 40 and None not in lots[:-1] and (lots[-1] is not None or not rows or rows[-1] == "in" != rows[0])


def board_may_go_on(rows):
    if not re.fullmatch(f"board {NUMBER}", rows[0]) or not 1 <= int(rows[0].split()[1]) <= 60:
        return False
    if len(rows) > 1 and not re.fullmatch(f"{MARK_WORD}( {MARK_WORD})*", rows[1]):
        return False
    if len(rows) > 1 and len(rows[1].split()) != int(rows[0].split()[1]):
        return False
    return tower_may_go_on(rows[2:])


def plain_is_held(tower, held):
    """Whether a board of this tower may hold it: marks or Nones, the unlike marks a kept row."""
    marks = {mark for mark in held if mark is not None}
    if any(len(mark) != len(tower) or any(one >= lot[0] for one, lot in zip(mark, tower)) for mark in marks):
        return False
    row = tuple(sorted(marks, key=lambda mark: sum(plain_later_in(tower, mark, other) for other in marks)))
    return plain_is_row_in(tower, row) and plain_is_kept_in(tower, row)


def board_parts(rows):
    """The tower of a board's rows, and what is held."""
    held = tuple(None if word == "-" else tuple(map(int, word.split("."))) for word in rows[1].split(" "))
    return tuple(plain_lots_of(rows[2:])), held


def plain_read(kind, text):
    """What outcome tells of reading it: a lot, a tower, a board as (tower, held)."""
    if type(text) is not str:
        return "NoText", (0,)
    rows = text.split("\n")
    may_go_on = {"lot": lot_may_go_on, "tower": tower_may_go_on, "board": board_may_go_on}[kind]
    for at in range(len(rows)):
        if not may_go_on(rows[:at + 1]):
            return "NoText", (at,)
    if kind == "lot":
        return "told", plain_lot_of(rows)
    if len(rows) < 3 and kind == "board" or rows[-1] == "in":
        return "NoText", (len(rows),)
    if kind == "tower":
        return "told", tuple(plain_lots_of(rows))
    tower, held = board_parts(rows)
    if len(held) > plain_reach_in(tower) or not plain_is_held(tower, held):
        return "NoText", (len(rows),)
    return "told", (tower, held)


SIGNS = " 0123456789.-:,/\nabdeilnortvx~_+"


def spoilt_texts(text, chance, others=4):
    """The text spoilt at each place: by signs, by rows, by blanks, by a 0 ahead; some of these may be right again."""
    for at, sign in enumerate(text):
        yield text[:at] + text[at + 1:]
        yield text[:at] + sign + text[at:]
        yield text[:at] + text[at + 1:at + 2] + sign + text[at + 2:]
        for other in chance.sample(SIGNS, others):
            yield text[:at] + other + text[at + 1:]
            yield text[:at] + other + text[at:]
    rows = text.split("\n")
    for at, row in enumerate(rows):
        changed = [[], [row, row], ["in", row], [row, "in"], ["lot 1", row], ["lot 0"], ["lot 24"], ["lot 25"], ["board 1"],
                   [row + " "], [" " + row], [row.replace(" ", "  ", 1)], [row.upper()], [""], [row, ""], ["", row], ["-"],
                   [re.sub(r"\b(\d+)$", r"0\1", row)], [re.sub(r"^(\d)", r"0\1", row)], [row.replace("over", "in")]]
        for some in changed:
            yield "\n".join(rows[:at] + some + rows[at + 1:])
        for other in range(at):
            order = list(rows)
            order[at], order[other] = order[other], order[at]
            yield "\n".join(order)
        yield "\n".join(rows[:at])
    for more in ("\n", "\nin", "\nin\nlot 1", "\n0 over 1", "\n1 over 0", "\nlot 1", " ", "\n ", "\n-", "\nin\n", "\nin\nin"):
        yield text + more
        yield more + text
    yield ""
    yield " "
    yield "\n"


# Point 23.

SLOT_WORD = r"(0|[1-9][0-9]{0,2})"
LINES = {"write": 1, "take": 2, "drop": 1, "back": 0, "marks": 0, "order": 0, "newest": 0, "oldest": 0, "next": 1, "full": 0,
         "reach": 0, "lasts": 0, "many": 0, "lots": 0, "later": 2, "text": 0}


def plain_later(board, slot, other):
    need_slots(len(board.slots), slot, other)
    board.need_full(slot)
    board.need_full(other)
    return "yes" if board.slots[slot][0] > board.slots[other][0] else "no"


def plain_or_none(thing):
    return "-" if thing is None else str(thing)


def plain_say(board, line):
    """What a desk answers whose board is as this plain one."""
    found = re.fullmatch(rf"([a-z]+)(?: {SLOT_WORD})?(?: {SLOT_WORD})?", line) if type(line) is str else None
    if not found or LINES.get(found[1]) != len([one for one in found.groups()[1:] if one is not None]):
        raise Refusal("NoLine", line)
    word, slots = found[1], [int(one) for one in found.groups()[1:] if one is not None]
    if word in ("take", "drop", "back"):
        getattr(board, word)(*slots)
        return "done"
    answers = {
        "write": lambda: plain_show_mark(board.write(*slots)),
        "marks": lambda: plain_show_held(board.marks()),
        "order": lambda: " ".join(",".join(map(str, group)) for group in board.order()) or "-",
        "newest": lambda: plain_or_none(board.newest()),
        "oldest": lambda: plain_or_none(board.oldest()),
        "next": lambda: plain_show_mark(board.next_mark(*slots)),
        "full": lambda: str(len(board)),
        "reach": lambda: str(plain_reach_in(board.tower)),
        "lasts": lambda: str(plain_lasts_in(board.tower)),
        "many": lambda: str(math.prod(lot[0] for lot in board.tower)),
        "lots": lambda: " ".join(str(plain_reach(lot)) for lot in board.tower),
        "later": lambda: plain_later(board, *slots),
        "text": lambda: plain_show_board(board.tower, board.marks()).replace("\n", "/"),
    }
    return answers[word]()
