"""The part of LANGUAGE.md that can be seen by reading the package's own files."""

import ast
import builtins
import pathlib
import re
import unittest

PACKAGE = pathlib.Path(__file__).resolve().parent.parent / "edgetally"
FILES = sorted(PACKAGE.glob("*.py"))

OWN_NAMES = set(
    "len range enumerate zip min max sum abs sorted reversed int str bool bytes list tuple dict set "
    "frozenset isinstance ord repr any all divmod Exception ValueError TypeError KeyError IndexError "
    "LookupError ZeroDivisionError ArithmeticError OverflowError RuntimeError NotImplementedError "
    "AttributeError StopIteration".split()
)
NO_NAMES = set(dir(builtins)) - OWN_NAMES
NO_NODES = (
    ast.Import, ast.With, ast.Match, ast.Global, ast.Nonlocal, ast.Yield, ast.YieldFrom, ast.Await,
    ast.AsyncFunctionDef, ast.AsyncFor, ast.AsyncWith, ast.GeneratorExp, ast.NamedExpr, ast.Div,
)
TOP_NODES = (ast.ImportFrom, ast.FunctionDef, ast.ClassDef, ast.Assign, ast.Expr)
DUNDERS = {"__init__", "__eq__", "__repr__", "__str__", "__len__"}
NO_WORDS = re.compile(
    r"\b(type|typing|typing_extensions|enum|Enum|IntEnum|StrEnum|Flag|IntFlag|Generic|Protocol|ABC|ABCMeta"
    r"|namedtuple|NamedTuple|TypedDict|TYPE_CHECKING|abstractmethod)\b|dataclass|overload|contextmanager"
)


def bound_names(tree):
    """Every name that a file gives a meaning to: names, parameters, defs, classes, handlers."""
    for node in ast.walk(tree):
        if isinstance(node, ast.Name) and not isinstance(node.ctx, ast.Load):
            yield node.id
        elif isinstance(node, ast.arg):
            yield node.arg
        elif isinstance(node, (ast.FunctionDef, ast.ClassDef, ast.ExceptHandler)) and node.name:
            yield node.name


class Form(unittest.TestCase):
    def each(self):
        for path in FILES:
            text = path.read_text(encoding="utf-8")
            with self.subTest(path.name):
                yield text, ast.parse(text)

    def test_nothing_else_lies_in_the_package(self):
        names = {path.name for path in PACKAGE.iterdir()} - {"__pycache__"}
        self.assertEqual(names, {path.name for path in FILES})
        self.assertIn("__init__.py", names)

    def test_sizes_signs_and_words(self):
        for text, tree in self.each():
            rows = text.split("\n")
            self.assertLessEqual(len(rows), 401)
            self.assertLessEqual(max(len(row) for row in rows), 120)
            self.assertTrue(all(" " <= sign <= "~" or sign == "\n" for sign in text))
            self.assertIsNone(NO_WORDS.search(text))
            for node in ast.walk(tree):
                if isinstance(node, ast.FunctionDef):
                    self.assertLessEqual(node.end_lineno - node.lineno + 1, 40, node.name)

    def test_tops_and_imports(self):
        for text, tree in self.each():
            for node in tree.body:
                self.assertIsInstance(node, TOP_NODES)
                if isinstance(node, ast.Expr):
                    self.assertIsInstance(node.value, ast.Constant)
                if isinstance(node, ast.ImportFrom):
                    self.assertEqual(node.level, 0)
                    self.assertTrue(node.module.startswith("edgetally."), node.module)

    def test_rows_and_values(self):
        for text, tree in self.each():
            for node in ast.walk(tree):
                self.assertNotIsInstance(node, NO_NODES)
                if isinstance(node, ast.Constant):
                    self.assertNotIsInstance(node.value, (float, complex))
                    self.assertFalse(isinstance(node.value, str) and "%" in node.value)
                if isinstance(node, (ast.For, ast.While)):
                    self.assertEqual(node.orelse, [])
                if isinstance(node, ast.Starred):
                    self.assertIsInstance(node.ctx, ast.Store)

    def test_defs_and_classes(self):
        for text, tree in self.each():
            for node in ast.walk(tree):
                if isinstance(node, (ast.FunctionDef, ast.ClassDef)):
                    self.assertEqual(node.decorator_list, [])
                if isinstance(node, ast.arguments):
                    self.assertEqual((node.vararg, node.kwarg, node.posonlyargs), (None, None, []))
                if isinstance(node, ast.ClassDef):
                    self.assertLessEqual(len(node.bases), 1)
                    for row in node.body:
                        self.assertIsInstance(row, (ast.FunctionDef, ast.Expr))

    def test_names(self):
        for text, tree in self.each():
            for name in bound_names(tree):
                self.assertNotIn(name, dir(builtins))
                self.assertTrue(name in DUNDERS or not name.startswith("_"), name)
            for node in ast.walk(tree):
                if isinstance(node, ast.Name):
                    self.assertNotIn(node.id, NO_NAMES)


if __name__ == "__main__":
    unittest.main()
