"""The interface: names and arguments as the document lists them."""

import importlib
import inspect
import unittest

FUNCTIONS = {
    "lots": {"is_lot": ["thing"], "is_later": ["lot", "x", "y"], "is_row": ["lot", "thing"], "rows": ["lot", "size"],
             "above": ["lot", "marks"], "in_order": ["lot", "marks"]},
    "judging": {"rounds": ["lot", "n"], "book": ["lot", "n"], "serves": ["lot", "n"], "reach": ["lot"],
                "hope": ["lot", "n", "row"], "lasts": ["lot", "n"]},
    "papers": {"paper": ["lot", "n"], "shows_paper": ["lot", "n", "thing"]},
    "giving": {"is_kept": ["lot", "n", "thing"], "give": ["lot", "n", "row"], "hold": ["lot", "n", "row"]},
    "attacking": {"attack": ["lot", "held"]},
    "making": {"ring": [], "line": ["many"], "squares": ["p"], "turned": ["lot"], "part": ["lot", "marks"],
               "beside": ["lot", "other"], "within": ["lot", "other"]},
    "leading": {"is_leading": ["lot", "other", "thing"], "ceiling": ["many"]},
    "sparing": {"spare": ["lot", "n"]},
    "towers": {"is_tower": ["thing"], "is_mark": ["tower", "thing"], "is_row_in": ["tower", "thing"],
               "later_in": ["tower", "x", "y"], "order_in": ["tower", "marks"], "many_in": ["tower"], "reach_in": ["tower"]},
    "towergiving": {"is_kept_in": ["tower", "thing"], "give_in": ["tower", "row"]},
}


class Interface(unittest.TestCase):
    def test_functions_take_the_arguments_told(self):
        for module, functions in FUNCTIONS.items():
            found = importlib.import_module("everlater." + module)
            for name, arguments in functions.items():
                parameters = inspect.signature(getattr(found, name)).parameters.values()
                self.assertEqual([parameter.name for parameter in parameters], arguments, name)
                for parameter in parameters:
                    self.assertEqual(parameter.kind, parameter.POSITIONAL_OR_KEYWORD)
                    self.assertIs(parameter.default, parameter.empty)


if __name__ == "__main__":
    unittest.main()
