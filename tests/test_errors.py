"""Point 2 and the interface: the eighteen refusals."""

import unittest

from everlater import errors

VALUE_NAMES = {
    "NotKept": "row", "NotHeld": "held", "TooMany": "many", "BadTower": "tower", "BadMany": "many",
    "BadLine": "line", "NoReach": "reach", "NoSlot": "slot", "Empty": "slot", "NoLetter": "number",
    "NotLive": "thing", "NoKey": "key", "NoValue": "value", "NoText": "row", "NoLine": "line",
}
WITHOUT_VALUE = ("Serves", "Fails", "NoDeed")
ALL_NAMES = tuple(VALUE_NAMES) + WITHOUT_VALUE


def nested(depth):
    thing = 7
    for step in range(depth):
        thing = (thing, [thing]) if step < 3 else (thing,)
    return thing


def values():
    """Values of all kinds; made anew for each use, so that none is shared."""
    return [0, -1, 10 ** 59, True, False, None, "", "a text", (), (0, 1), ((0, 1), None), [], [1, [2]], {}, {"a": [1]},
            nested(30)]


def made(name):
    kind = getattr(errors, name)
    return kind(0) if name in VALUE_NAMES else kind()


class TheRefusals(unittest.TestCase):
    def test_there_are_eighteen_and_no_more(self):
        found = [name for name, kind in vars(errors).items()
                 if isinstance(kind, type) and issubclass(kind, errors.MarkError) and kind is not errors.MarkError]
        self.assertEqual(sorted(found), sorted(ALL_NAMES))
        self.assertEqual(len(found), 18)

    def test_each_stands_straight_under_mark_error(self):
        self.assertEqual(errors.MarkError.__bases__, (ValueError,))
        for name in ALL_NAMES:
            self.assertEqual(getattr(errors, name).__bases__, (errors.MarkError,), name)

    def test_each_is_of_its_own_class_alone(self):
        for name in ALL_NAMES:
            error = made(name)
            self.assertIsInstance(error, errors.MarkError)
            self.assertIsInstance(error, ValueError)
            alike = [other for other in ALL_NAMES if isinstance(error, getattr(errors, other))]
            self.assertEqual(alike, [name])

    def test_each_has_the_very_value_by_its_name(self):
        for name, value_name in VALUE_NAMES.items():
            kind = getattr(errors, name)
            for value in values():
                self.assertIs(getattr(kind(value), value_name), value, name)
                self.assertIs(getattr(kind(**{value_name: value}), value_name), value, name)

    def test_what_is_handed_in_stays_as_it_is(self):
        for name in VALUE_NAMES:
            given = values()
            for value in given:
                getattr(errors, name)(value)
            self.assertEqual(repr(given), repr(values()))

    def test_each_object_has_a_value_of_its_own(self):
        for name, value_name in VALUE_NAMES.items():
            kind = getattr(errors, name)
            first, second = kind([1]), kind([2])
            self.assertEqual((getattr(first, value_name), getattr(second, value_name)), ([1], [2]))

    def test_the_value_is_needed_where_one_is_told_and_only_there(self):
        for name in VALUE_NAMES:
            with self.assertRaises(TypeError):
                getattr(errors, name)()
        for name in WITHOUT_VALUE:
            self.assertEqual(vars(getattr(errors, name)()), {}, name)

    def test_each_is_caught_by_its_name_as_mark_error_and_as_value_error(self):
        for name in ALL_NAMES:
            for caught in (getattr(errors, name), errors.MarkError, ValueError):
                with self.assertRaises(caught):
                    raise made(name)

    def test_each_has_a_message(self):
        for name in ALL_NAMES:
            self.assertIsInstance(str(made(name)), str)
            self.assertIsInstance(repr(made(name)), str)


if __name__ == "__main__":
    unittest.main()
