"""The part of LANGUAGE.md that can be seen by reading the package's own files."""

import ast
import builtins
import pathlib
import re
import unittest

PACKAGE = pathlib.Path(__file__).resolve().parent.parent / "edgetally"
FILES = sorted(PACKAGE.glob("*.py"))

OWN_NAMES = set(
    "len range enumerate zip min max sum abs sorted reversed int str bool bytes list tuple dict set "
    "frozenset isinstance ord repr any all divmod Exception ValueError TypeError KeyError IndexError "
    "LookupError ZeroDivisionError ArithmeticError OverflowError RuntimeError NotImplementedError "
    "AttributeError StopIteration".split()
)
NO_NAMES = set(dir(builtins)) - OWN_NAMES
NO_NODES = (
    ast.Import, ast.With, ast.Match, ast.Global, ast.Nonlocal, ast.Yield, ast.YieldFrom, ast.Await,
    ast.AsyncFunctionDef, ast.AsyncFor, ast.AsyncWith, ast.GeneratorExp, ast.NamedExpr, ast.Div,
)
TOP_NODES = (ast.ImportFrom, ast.FunctionDef, ast.ClassDef, ast.Assign, ast.Expr)
DUNDERS = {"__init__", "__eq__", "__repr__", "__str__", "__len__"}
NO_WORDS = re.compile(
    r"\b(type|typing|typing_extensions|enum|Enum|IntEnum|StrEnum|Flag|IntFlag|Generic|Protocol|ABC|ABCMeta"
    r"|namedtuple|NamedTuple|TypedDict|TYPE_CHECKING|abstractmethod)\b|dataclass|overload|contextmanager"
)
WALKED = {"zip", "enumerate", "reversed", "range"}
WALKED_METHODS = {"items", "keys", "values"}
WALKERS = {"list", "tuple", "dict", "sorted", "sum", "any", "all", "enumerate", "zip", "bytes", "min", "max"}
METHODS = set(
    "append clear copy count endswith extend find get index insert isalnum isalpha isdigit islower isspace isupper "
    "items join keys ljust lower lstrip partition pop remove replace reverse rfind rjust rpartition rsplit rstrip "
    "setdefault split splitlines startswith strip update upper values zfill bit_length add discard".split()
)


def bound_names(tree):
    """Every name that a file gives a meaning to: names, parameters, defs, classes, handlers."""
    for node in ast.walk(tree):
        if isinstance(node, ast.Name) and not isinstance(node.ctx, ast.Load):
            yield node.id
        elif isinstance(node, ast.arg):
            yield node.arg
        elif isinstance(node, (ast.FunctionDef, ast.ClassDef, ast.ExceptHandler)) and node.name:
            yield node.name


def parents(tree):
    """Each node below another, with the one that it stands in."""
    for node in ast.walk(tree):
        for below in ast.iter_child_nodes(node):
            yield below, node


def calls(node, names):
    return isinstance(node, ast.Call) and isinstance(node.func, ast.Name) and node.func.id in names


def joins_by_a_text(node):
    method = isinstance(node, ast.Call) and isinstance(node.func, ast.Attribute)
    return method and node.func.attr == "join" and isinstance(node.func.value, ast.Constant)


def own_names(tree):
    """The names that a file's top defines, in their order."""
    told = []
    for node in tree.body:
        if isinstance(node, (ast.FunctionDef, ast.ClassDef)):
            told.append(node.name)
        elif isinstance(node, ast.Assign):
            told += [target.id for target in node.targets]
    return told


def drawn_names(tree):
    """The names that a file's top draws in."""
    rows = [node for node in tree.body if isinstance(node, ast.ImportFrom)]
    return [alias.asname or alias.name for row in rows for alias in row.names]


def local_names(tree):
    """Parameters, locals and defs within defs; a method's own name is none of these."""
    for node in ast.walk(tree):
        if isinstance(node, ast.FunctionDef):
            for row in ast.iter_child_nodes(node):
                yield from bound_names(row)


def methods_and_values(trees):
    methods, values = set(), set()
    for tree in trees:
        for node in ast.walk(tree):
            if isinstance(node, ast.ClassDef):
                methods |= {row.name for row in node.body if isinstance(row, ast.FunctionDef)}
            if isinstance(node, ast.Attribute) and isinstance(node.ctx, ast.Store):
                values.add(node.attr)
    return methods, values


def each():
    for path in FILES:
        text = path.read_text(encoding="utf-8")
        yield path, text, ast.parse(text)


class Form(unittest.TestCase):
    def test_nothing_else_lies_in_the_package(self):
        names = {path.name for path in PACKAGE.iterdir()} - {"__pycache__"}
        self.assertEqual(names, {path.name for path in FILES})
        self.assertIn("__init__.py", names)

    def test_sizes_signs_and_words(self):
        for path, text, tree in each():
            with self.subTest(file=path.name):
                rows = text.split("\n")
                self.assertLessEqual(len(rows), 401)
                self.assertLessEqual(max(len(row) for row in rows), 120)
                self.assertTrue(all(" " <= sign <= "~" or sign == "\n" for sign in text))
                self.assertIsNone(NO_WORDS.search(text))
                for node in ast.walk(tree):
                    if isinstance(node, ast.FunctionDef):
                        self.assertLessEqual(node.end_lineno - node.lineno + 1, 40, node.name)

    def test_tops_and_imports(self):
        for path, text, tree in each():
            with self.subTest(file=path.name):
                for node in tree.body:
                    self.assertIsInstance(node, TOP_NODES)
                    if isinstance(node, ast.Expr):
                        self.assertIsInstance(node.value, ast.Constant)
                    if isinstance(node, ast.ImportFrom):
                        self.assertEqual(node.level, 0)
                        self.assertTrue(node.module.startswith("edgetally."), node.module)

    def test_rows_and_values(self):
        for path, text, tree in each():
            with self.subTest(file=path.name):
                for node in ast.walk(tree):
                    self.assertNotIsInstance(node, NO_NODES)
                    if isinstance(node, ast.Constant):
                        self.assertNotIsInstance(node.value, (float, complex))
                        self.assertFalse(isinstance(node.value, str) and "%" in node.value)
                    if isinstance(node, (ast.For, ast.While)):
                        self.assertEqual(node.orelse, [])
                    if isinstance(node, ast.Starred):
                        self.assertIsInstance(node.ctx, ast.Store)

    def test_defs_and_classes(self):
        for path, text, tree in each():
            with self.subTest(file=path.name):
                for node in ast.walk(tree):
                    if isinstance(node, (ast.FunctionDef, ast.ClassDef)):
                        self.assertEqual(node.decorator_list, [])
                    if isinstance(node, ast.arguments):
                        self.assertEqual((node.vararg, node.kwarg, node.posonlyargs), (None, None, []))
                    if isinstance(node, ast.ClassDef):
                        self.assertLessEqual(len(node.bases), 1)
                        for row in node.body:
                            self.assertIsInstance(row, (ast.FunctionDef, ast.Expr))

    def test_names(self):
        for path, text, tree in each():
            with self.subTest(file=path.name):
                for name in bound_names(tree):
                    self.assertNotIn(name, dir(builtins))
                    self.assertTrue(name in DUNDERS or not name.startswith("_"), name)
                for node in ast.walk(tree):
                    if isinstance(node, ast.Name):
                        self.assertNotIn(node.id, NO_NAMES)

    def test_imports_go_one_way(self):
        drawn = {}
        for path, text, tree in each():
            with self.subTest(file=path.name):
                rows = [node for node in tree.body if isinstance(node, ast.ImportFrom)]
                drawn[path.stem] = {row.module.split(".")[1] for row in rows}
                for row in rows:
                    source = PACKAGE / f"{row.module.split('.')[1]}.py"
                    for alias in row.names:
                        self.assertIn(alias.name, own_names(ast.parse(source.read_text(encoding="utf-8"))))
        while drawn:
            # Files that draw from none of those left are let go; in a ring none ever is.
            ended = [name for name, others in drawn.items() if not others & set(drawn)]
            self.assertTrue(ended, drawn)
            drawn = {name: others for name, others in drawn.items() if name not in ended}

    def test_each_name_once(self):
        for path, text, tree in each():
            with self.subTest(file=path.name):
                names = own_names(tree) + drawn_names(tree)
                self.assertEqual(sorted(names), sorted(set(names)))
                classes = {node.name for node in tree.body if isinstance(node, ast.ClassDef)}
                self.assertEqual((classes | set(drawn_names(tree))) & set(local_names(tree)), set())

    def test_methods_and_values(self):
        methods, values = methods_and_values([tree for path, text, tree in each()])
        self.assertEqual(methods & values, set())
        for path, text, tree in each():
            with self.subTest(file=path.name):
                for node, above in parents(tree):
                    if isinstance(node, ast.Attribute) and isinstance(node.ctx, ast.Load):
                        called = isinstance(above, ast.Call) and above.func is node
                        self.assertIn(node.attr, methods | METHODS if called else values)

    def test_walked_at_once(self):
        for path, text, tree in each():
            with self.subTest(file=path.name):
                for node, above in parents(tree):
                    method = isinstance(node, ast.Call) and isinstance(node.func, ast.Attribute)
                    if calls(node, WALKED) or method and node.func.attr in WALKED_METHODS:
                        walked = isinstance(above, (ast.For, ast.comprehension)) and above.iter is node
                        turned = calls(above, {"reversed"}) and calls(node, {"range"})
                        self.assertTrue(walked or turned or calls(above, WALKERS), ast.unparse(above))

    def test_sets_are_asked_on_the_spot(self):
        for path, text, tree in each():
            with self.subTest(file=path.name):
                for node, above in parents(tree):
                    if isinstance(node, (ast.Set, ast.SetComp)) or calls(node, {"set", "frozenset"}):
                        self.assertTrue(calls(above, {"sorted", "len"}) or isinstance(above, ast.Compare))

    def test_is_powers_and_texts(self):
        for path, text, tree in each():
            with self.subTest(file=path.name):
                for node in ast.walk(tree):
                    if isinstance(node, ast.Compare) and any(isinstance(op, (ast.Is, ast.IsNot)) for op in node.ops):
                        self.assertTrue(all(isinstance(other, ast.Constant) for other in node.comparators))
                    if isinstance(node, ast.BinOp) and isinstance(node.op, ast.Pow):
                        self.assertIsInstance(node.right, ast.Constant)
                    if isinstance(node, ast.FormattedValue):
                        self.assertIsNone(node.format_spec)

    def test_methods_with_two_underscores(self):
        allowed = {"__len__": {"len"}, "__str__": {"str", "repr"}, "__repr__": {"str", "repr"}}
        for path, text, tree in each():
            with self.subTest(file=path.name):
                for node in ast.walk(tree):
                    if isinstance(node, ast.FunctionDef) and node.name in allowed:
                        self.assertIsInstance(node.body[-1], ast.Return)
                        for row in [row for row in ast.walk(node) if isinstance(row, ast.Return)]:
                            written = isinstance(row.value, (ast.Constant, ast.JoinedStr))
                            called = calls(row.value, allowed[node.name])
                            self.assertTrue(written or called or joins_by_a_text(row.value), node.name)
                    if isinstance(node, ast.FunctionDef) and node.name == "__init__":
                        self.assertFalse([row for row in ast.walk(node) if isinstance(row, ast.Return)])

    def test_errors(self):
        errors = set(own_names(ast.parse((PACKAGE / "errors.py").read_text(encoding="utf-8"))))
        for path, text, tree in each():
            with self.subTest(file=path.name):
                for node in ast.walk(tree):
                    if isinstance(node, ast.Raise) and node.exc:
                        self.assertTrue(calls(node.exc, errors))
                    if isinstance(node, ast.ExceptHandler):
                        self.assertIsInstance(node.type, ast.Name)
                        self.assertIn(node.type.id, errors | {"KeyError", "ZeroDivisionError", "StopIteration"})


if __name__ == "__main__":
    unittest.main()
