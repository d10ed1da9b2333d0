"""The interface: names and arguments as the document lists them."""

import importlib
import inspect
import unittest

FUNCTIONS = {
    "lots": {"is_lot": ["thing"], "is_later": ["lot", "x", "y"], "is_row": ["lot", "thing"], "rows": ["lot", "size"],
             "above": ["lot", "marks"], "in_order": ["lot", "marks"]},
    "judging": {"rounds": ["lot", "n"], "book": ["lot", "n"], "serves": ["lot", "n"], "reach": ["lot"],
                "hope": ["lot", "n", "row"], "lasts": ["lot", "n"]},
    "papers": {"paper": ["lot", "n"], "shows_paper": ["lot", "n", "thing"]},
    "giving": {"is_kept": ["lot", "n", "thing"], "give": ["lot", "n", "row"], "hold": ["lot", "n", "row"]},
    "attacking": {"attack": ["lot", "held"]},
    "making": {"ring": [], "line": ["many"], "squares": ["p"], "turned": ["lot"], "part": ["lot", "marks"],
               "beside": ["lot", "other"], "within": ["lot", "other"]},
    "leading": {"is_leading": ["lot", "other", "thing"], "ceiling": ["many"]},
    "sparing": {"spare": ["lot", "n"]},
    "towers": {"is_tower": ["thing"], "is_mark": ["tower", "thing"], "is_row_in": ["tower", "thing"],
               "later_in": ["tower", "x", "y"], "order_in": ["tower", "marks"], "many_in": ["tower"], "reach_in": ["tower"]},
    "towergiving": {"is_kept_in": ["tower", "thing"], "give_in": ["tower", "row"]},
    "towerattack": {"lasts_in": ["tower"], "attack_in": ["tower", "held"]},
    "showing": {"show_lot": ["lot"], "show_tower": ["tower"], "show_row": ["row"], "show_held": ["held"],
                "show_letter": ["letter"], "show_board": ["board"]},
    "reading": {"read_lot": ["text"], "read_tower": ["text"], "read_board": ["text"], "read_row": ["tower", "text"]},
}
# What is behind a * is handed in by its name alone, what has = may be left out.
CLASSES = {
    "boards": {"Board": {
        "__init__": ["tower", "many", "*held=None"], "write": ["slot"], "take": ["slot", "other"], "drop": ["slot"],
        "back": [], "marks": [], "order": [], "oldest": [], "newest": [], "next_mark": ["slot"], "its_tower": [],
        "copied": [], "__len__": [], "__eq__": ["other"]}},
    "posts": {"Post": {
        "__init__": ["tower", "line", "many"], "give": [], "keep": ["slot", "number"], "take": ["slot", "other"],
        "drop": ["slot"], "back": [], "letters": [], "kept": [], "order": [], "is_later": ["one", "other"], "live": [],
        "__len__": []}},
    "caches": {"Cache": {
        "__init__": ["tower", "many"], "put": ["key", "value"], "ask": ["key"], "look": ["key"], "by_touch": [],
        "marks": [], "back": [], "__len__": []}},
    "copies": {"Copies": {
        "__init__": ["tower", "many"], "write": ["place", "value"], "spread": ["place", "other"], "lose": ["place"],
        "back": [], "read": [], "at": ["place"], "stale": [], "agree": []}},
    "desk": {"Desk": {"__init__": ["text"], "say": ["line"]}},
}


def written(parameter):
    """A parameter as it stands in CLASSES."""
    default = "" if parameter.default is parameter.empty else f"={parameter.default}"
    return "*" * (parameter.kind is parameter.KEYWORD_ONLY) + parameter.name + default


class Interface(unittest.TestCase):
    def test_functions_take_the_arguments_told(self):
        for module, functions in FUNCTIONS.items():
            found = importlib.import_module("everlater." + module)
            for name, arguments in functions.items():
                parameters = inspect.signature(getattr(found, name)).parameters.values()
                self.assertEqual([parameter.name for parameter in parameters], arguments, name)
                for parameter in parameters:
                    self.assertEqual(parameter.kind, parameter.POSITIONAL_OR_KEYWORD)
                    self.assertIs(parameter.default, parameter.empty)

    def test_each_class_has_its_methods_itself_with_the_arguments_told(self):
        for module, classes in CLASSES.items():
            found = importlib.import_module("everlater." + module)
            for name, methods in classes.items():
                kind = getattr(found, name)
                for method, arguments in methods.items():
                    self.assertIn(method, vars(kind), name)
                    parameters = list(inspect.signature(vars(kind)[method]).parameters.values())
                    self.assertEqual([written(parameter) for parameter in parameters[1:]], arguments, (name, method))
                    self.assertFalse({parameter.kind for parameter in parameters}
                                     - {inspect.Parameter.POSITIONAL_OR_KEYWORD, inspect.Parameter.KEYWORD_ONLY})


if __name__ == "__main__":
    unittest.main()
