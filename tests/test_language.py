"""The rules of the language that can be seen file by file: imports, names, sizes, signs, builtins."""

import ast
import builtins
import pathlib
import re
import unittest

PACKAGE = pathlib.Path(__file__).resolve().parent.parent / "everlater"
FILES = sorted(PACKAGE.glob("*.py"))
MODULES = {file.stem for file in FILES}
BUILTINS = set("""len range enumerate zip min max sum abs sorted reversed int str bool bytes list tuple dict set frozenset
    isinstance ord repr any all divmod iter next super property staticmethod classmethod Exception ValueError TypeError
    KeyError IndexError LookupError ZeroDivisionError ArithmeticError OverflowError RuntimeError NotImplementedError
    AttributeError StopIteration NotImplemented""".split())
BARRED_WORDS = re.compile(r"\b(type|typing|typing_extensions|enum|Enum|IntEnum|StrEnum|Flag|IntFlag|Generic|Protocol|ABC"
                          r"|ABCMeta|namedtuple|NamedTuple|TypedDict|TYPE_CHECKING|abstractmethod)\b"
                          r"|dataclass|overload|contextmanager")
BARRED_NAMES = set("register mro elements open input version_info with_traceback add_note".split())
METHODS = set("""append clear copy count endswith extend find get index insert isalnum isalpha isdigit islower isspace isupper
    items join keys ljust lower lstrip partition pop remove replace reverse rfind rjust rpartition rsplit rstrip setdefault
    split splitlines startswith strip update upper values zfill bit_length add discard""".split())
DOUBLE = {"__init__", "__eq__", "__len__", "__repr__", "__str__"}


def defined(tree):
    """The names that a file defines at its top."""
    found = {node.name for node in tree.body if isinstance(node, (ast.FunctionDef, ast.ClassDef))}
    return found | {target.id for node in tree.body if isinstance(node, ast.Assign) for target in node.targets}


def imported_from(tree):
    """The names that a file imports, by modules of the package."""
    return {node.module.removeprefix("everlater."): [one.name for one in node.names]
            for node in tree.body if isinstance(node, ast.ImportFrom)}


def names_bound(tree):
    """All names that a file gives to something, and those of attributes."""
    for node in ast.walk(tree):
        if isinstance(node, ast.Name) and not isinstance(node.ctx, ast.Load):
            yield node.id
        elif isinstance(node, (ast.FunctionDef, ast.ClassDef)):
            yield node.name
        elif isinstance(node, ast.arg):
            yield node.arg
        elif isinstance(node, ast.Attribute):
            yield node.attr


class Language(unittest.TestCase):
    def each(self):
        for file in FILES:
            text = file.read_text(encoding="ascii")
            yield file.name, text, ast.parse(text)

    def test_the_folder_has_plain_files_only(self):
        found = {entry.name for entry in PACKAGE.iterdir()} - {"__pycache__"}
        self.assertEqual(found, {file.name for file in FILES})
        for name in found - {"__init__.py", "__main__.py"}:
            self.assertRegex(name, r"^[a-z][a-z0-9_]*\.py$")

    def test_signs_and_sizes(self):
        for name, text, tree in self.each():
            self.assertRegex(text, r"\A[ -~\n]*\Z", name)
            self.assertLessEqual(len(text.splitlines()), 400, name)
            self.assertLessEqual(max(len(row) for row in text.splitlines()), 120, name)
            for node in ast.walk(tree):
                if isinstance(node, ast.FunctionDef):
                    self.assertLessEqual(node.end_lineno - node.lineno + 1, 40, node.name)

    def test_words_that_are_not_used(self):
        for name, text, tree in self.each():
            self.assertIsNone(BARRED_WORDS.search(text), name)

    def test_names(self):
        for name, text, tree in self.each():
            for bound in names_bound(tree):
                self.assertNotIn(bound, BARRED_NAMES, name)
                self.assertTrue(bound in DOUBLE or not bound.startswith("_"), (name, bound))

    def test_no_name_of_a_builtin_or_an_import_means_something_else(self):
        for name, text, tree in self.each():
            imported = {one.name for node in tree.body if isinstance(node, ast.ImportFrom) for one in node.names}
            for node in ast.walk(tree):
                given = node.arg if isinstance(node, ast.arg) else None
                if isinstance(node, ast.Name) and isinstance(node.ctx, ast.Store):
                    given = node.id
                self.assertFalse(given in imported or hasattr(builtins, given or ""), (name, given))

    def test_imports(self):
        for name, text, tree in self.each():
            for node in ast.walk(tree):
                self.assertNotIsInstance(node, ast.Import, name)
                if isinstance(node, ast.ImportFrom):
                    self.assertIn(node, tree.body)
                    self.assertEqual(node.level, 0)
                    self.assertIn(node.module.removeprefix("everlater."), MODULES)

    def test_imports_name_the_file_that_defines_and_never_lead_back(self):
        trees = {name.removesuffix(".py"): tree for name, text, tree in self.each()}
        ahead = {name: imported_from(tree) for name, tree in trees.items()}
        for name in trees:
            for module, names in ahead[name].items():
                self.assertLessEqual(set(names), defined(trees[module]), name)
        while ahead:
            free = [name for name in ahead if not set(ahead[name]) & set(ahead)]
            self.assertTrue(free, f"these import from each other: {sorted(ahead)}")
            for name in free:
                del ahead[name]

    def test_methods(self):
        own = {node.name for name, text, tree in self.each() for kind in ast.walk(tree) if isinstance(kind, ast.ClassDef)
               for node in kind.body if isinstance(node, ast.FunctionDef)}
        for name, text, tree in self.each():
            for node in ast.walk(tree):
                if isinstance(node, ast.Call) and isinstance(node.func, ast.Attribute):
                    self.assertIn(node.func.attr, METHODS | own, name)

    def test_no_name_is_a_method_in_one_class_and_an_attribute_in_another(self):
        methods, given, read = set(), set(), set()
        for name, text, tree in self.each():
            for kind in [node for node in ast.walk(tree) if isinstance(node, ast.ClassDef)]:
                self.assertIn(kind, tree.body)
                self.assertEqual(kind.decorator_list, [])
                inside = [node for node in kind.body if isinstance(node, ast.FunctionDef)]
                self.assertEqual(len(inside), len({node.name for node in inside}))
                methods |= {node.name for node in inside}
            called = {node.func for node in ast.walk(tree) if isinstance(node, ast.Call)}
            for node in ast.walk(tree):
                if isinstance(node, ast.Attribute) and isinstance(node.ctx, ast.Store):
                    given.add(node.attr)
                elif isinstance(node, ast.Attribute) and node not in called:
                    read.add(node.attr)
        self.assertEqual(methods & given, set())
        self.assertLessEqual(read, given)
        self.assertEqual(given & METHODS, set())

    def test_what_double_underscore_methods_tell(self):
        for name, text, tree in self.each():
            for kind in [node for node in tree.body if isinstance(node, ast.ClassDef)]:
                for node in kind.body:
                    if isinstance(node, ast.FunctionDef) and node.name in ("__len__", "__eq__"):
                        self.assertEqual([type(row) for row in node.body], [ast.Return], kind.name)
                        if node.name == "__len__":
                            self.assertEqual(getattr(node.body[0].value.func, "id", None), "len")
                    elif isinstance(node, ast.FunctionDef) and node.name == "__init__":
                        self.assertFalse([row for row in ast.walk(node) if isinstance(row, ast.Return)])

    def test_refusals_alone_are_caught(self):
        for name, text, tree in self.each():
            for node in ast.walk(tree):
                if isinstance(node, ast.ExceptHandler):
                    kinds = node.type.elts if isinstance(node.type, ast.Tuple) else [node.type]
                    self.assertFalse({kind.id for kind in kinds} & set(dir(builtins)), name)

    def test_sets_stand_where_they_are_only_looked_at(self):
        for name, text, tree in self.each():
            parents = {child: node for node in ast.walk(tree) for child in ast.iter_child_nodes(node)}
            for node in ast.walk(tree):
                called = node.func.id if isinstance(node, ast.Call) and isinstance(node.func, ast.Name) else None
                if called in ("set", "frozenset") or isinstance(node, (ast.Set, ast.SetComp)):
                    around = parents[node]
                    looked_at = isinstance(around, ast.Compare) or getattr(getattr(around, "func", None), "id", None) in (
                        "sorted", "len")
                    self.assertTrue(looked_at, (name, node.lineno))

    def test_powers_and_generators(self):
        for name, text, tree in self.each():
            for node in ast.walk(tree):
                self.assertNotIsInstance(node, ast.GeneratorExp, name)
                if isinstance(node, ast.BinOp) and isinstance(node.op, ast.Pow):
                    self.assertIsInstance(node.right, ast.Constant, name)

    def test_builtins(self):
        for name, text, tree in self.each():
            for node in ast.walk(tree):
                if isinstance(node, ast.Name) and hasattr(builtins, node.id):
                    self.assertIn(node.id, BUILTINS, name)

    def test_statements_and_values(self):
        barred = (ast.Global, ast.AsyncFunctionDef, ast.Await, ast.Div, ast.MatMult)
        for name, text, tree in self.each():
            for node in ast.walk(tree):
                self.assertNotIsInstance(node, barred, name)
                if isinstance(node, ast.Constant):
                    self.assertNotIsInstance(node.value, (float, complex), name)
                    self.assertNotIn("%", node.value if isinstance(node.value, str) else "", name)
                if isinstance(node, ast.Compare) and isinstance(node.ops[0], (ast.Is, ast.IsNot)):
                    self.assertIn(getattr(node.comparators[0], "value", ...), (None, True, False), name)

    def test_module_level(self):
        allowed = (ast.Expr, ast.ImportFrom, ast.FunctionDef, ast.ClassDef, ast.Assign)
        for name, text, tree in self.each():
            for node in tree.body:
                self.assertIsInstance(node, allowed, name)
                if isinstance(node, ast.Expr):
                    self.assertIs(node, tree.body[0])


if __name__ == "__main__":
    unittest.main()
