"""The rules of the language that can be seen file by file: imports, names, sizes, signs, builtins."""

import ast
import builtins
import pathlib
import re
import unittest

PACKAGE = pathlib.Path(__file__).resolve().parent.parent / "everlater"
FILES = sorted(PACKAGE.glob("*.py"))
MODULES = {file.stem for file in FILES}
BUILTINS = set("""len range enumerate zip min max sum abs sorted reversed int str bool bytes list tuple dict set frozenset
    isinstance ord repr any all divmod iter next super property staticmethod classmethod Exception ValueError TypeError
    KeyError IndexError LookupError ZeroDivisionError ArithmeticError OverflowError RuntimeError NotImplementedError
    AttributeError StopIteration NotImplemented""".split())
BARRED_WORDS = re.compile(r"\b(type|typing|typing_extensions|enum|Enum|IntEnum|StrEnum|Flag|IntFlag|Generic|Protocol|ABC"
                          r"|ABCMeta|namedtuple|NamedTuple|TypedDict|TYPE_CHECKING|abstractmethod)\b"
                          r"|dataclass|overload|contextmanager")
BARRED_NAMES = set("register mro elements open input version_info with_traceback add_note".split())
DOUBLE = {"__init__", "__eq__", "__len__", "__repr__", "__str__"}


def names_bound(tree):
    """All names that a file gives to something, and those of attributes."""
    for node in ast.walk(tree):
        if isinstance(node, ast.Name) and not isinstance(node.ctx, ast.Load):
            yield node.id
        elif isinstance(node, (ast.FunctionDef, ast.ClassDef)):
            yield node.name
        elif isinstance(node, ast.arg):
            yield node.arg
        elif isinstance(node, ast.Attribute):
            yield node.attr


class Language(unittest.TestCase):
    def each(self):
        for file in FILES:
            text = file.read_text(encoding="ascii")
            yield file.name, text, ast.parse(text)

    def test_the_folder_has_plain_files_only(self):
        found = {entry.name for entry in PACKAGE.iterdir()} - {"__pycache__"}
        self.assertEqual(found, {file.name for file in FILES})
        for name in found - {"__init__.py", "__main__.py"}:
            self.assertRegex(name, r"^[a-z][a-z0-9_]*\.py$")

    def test_signs_and_sizes(self):
        for name, text, tree in self.each():
            self.assertRegex(text, r"\A[ -~\n]*\Z", name)
            self.assertLessEqual(len(text.splitlines()), 400, name)
            self.assertLessEqual(max(len(row) for row in text.splitlines()), 120, name)
            for node in ast.walk(tree):
                if isinstance(node, ast.FunctionDef):
                    self.assertLessEqual(node.end_lineno - node.lineno + 1, 40, node.name)

    def test_words_that_are_not_used(self):
        for name, text, tree in self.each():
            self.assertIsNone(BARRED_WORDS.search(text), name)

    def test_names(self):
        for name, text, tree in self.each():
            for bound in names_bound(tree):
                self.assertNotIn(bound, BARRED_NAMES, name)
                self.assertTrue(bound in DOUBLE or not bound.startswith("_"), (name, bound))

    def test_no_name_of_a_builtin_or_an_import_means_something_else(self):
        for name, text, tree in self.each():
            imported = {one.name for node in tree.body if isinstance(node, ast.ImportFrom) for one in node.names}
            for node in ast.walk(tree):
                given = node.arg if isinstance(node, ast.arg) else None
                if isinstance(node, ast.Name) and isinstance(node.ctx, ast.Store):
                    given = node.id
                self.assertFalse(given in imported or hasattr(builtins, given or ""), (name, given))

    def test_imports(self):
        for name, text, tree in self.each():
            for node in ast.walk(tree):
                self.assertNotIsInstance(node, ast.Import, name)
                if isinstance(node, ast.ImportFrom):
                    self.assertIn(node, tree.body)
                    self.assertEqual(node.level, 0)
                    self.assertIn(node.module.removeprefix("everlater."), MODULES)

    def test_builtins(self):
        for name, text, tree in self.each():
            for node in ast.walk(tree):
                if isinstance(node, ast.Name) and hasattr(builtins, node.id):
                    self.assertIn(node.id, BUILTINS, name)

    def test_statements_and_values(self):
        barred = (ast.Global, ast.AsyncFunctionDef, ast.Await, ast.Div, ast.MatMult)
        for name, text, tree in self.each():
            for node in ast.walk(tree):
                self.assertNotIsInstance(node, barred, name)
                if isinstance(node, ast.Constant):
                    self.assertNotIsInstance(node.value, (float, complex), name)
                    self.assertNotIn("%", node.value if isinstance(node.value, str) else "", name)
                if isinstance(node, ast.Compare) and isinstance(node.ops[0], (ast.Is, ast.IsNot)):
                    self.assertIn(getattr(node.comparators[0], "value", ...), (None, True, False), name)

    def test_module_level(self):
        allowed = (ast.Expr, ast.ImportFrom, ast.FunctionDef, ast.ClassDef, ast.Assign)
        for name, text, tree in self.each():
            for node in tree.body:
                self.assertIsInstance(node, allowed, name)
                if isinstance(node, ast.Expr):
                    self.assertIs(node, tree.body[0])


if __name__ == "__main__":
    unittest.main()
