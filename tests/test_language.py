"""The form of the package's code: what ../shared/LANGUAGE.md asks for, as far as a short check sees it."""

import ast
import builtins
import pathlib
import re
import unittest

PACKAGE = pathlib.Path(__file__).resolve().parent.parent / "commonform"
FILES = sorted(path for path in PACKAGE.rglob("*") if "__pycache__" not in path.parts)

KINDS = set("""
Module FunctionDef ClassDef arguments arg Return Assign AugAssign For While If Raise Try ExceptHandler Pass Break
Continue Expr ImportFrom alias BoolOp And Or BinOp Add Sub Mult FloorDiv Mod Pow BitAnd BitOr BitXor LShift RShift
UnaryOp Not USub UAdd Invert Lambda IfExp Dict Set ListComp comprehension Compare Eq NotEq Lt LtE Gt GtE Is IsNot In
NotIn Call keyword Constant Attribute Subscript Slice Name Load Store List Tuple JoinedStr FormattedValue
""".split())

OWN_OF_PYTHON = set("""
len range enumerate zip min max sum abs sorted reversed int str bool list tuple dict set frozenset isinstance ord repr
any all divmod Exception ValueError TypeError KeyError IndexError LookupError ZeroDivisionError ArithmeticError
OverflowError RuntimeError NotImplementedError StopIteration
""".split())

METHODS = set("""
append clear copy count endswith extend find get index insert isalnum isalpha isdigit islower isspace isupper items join
keys ljust lower lstrip partition pop remove replace reverse rfind rjust rpartition rsplit rstrip setdefault split
splitlines startswith strip update upper values zfill bit_length
""".split())

DUNDERS = ("__init__", "__eq__", "__repr__", "__str__", "__len__")

WORDS = re.compile(
    r"\b(type|typing|typing_extensions|enum|Enum|IntEnum|StrEnum|Flag|IntFlag|Generic|Protocol|ABC|ABCMeta|namedtuple"
    r"|NamedTuple|TypedDict|TYPE_CHECKING|abstractmethod)\b|dataclass|overload|contextmanager"
)


def nodes_of(path):
    return list(ast.walk(ast.parse(path.read_text(encoding="utf-8"))))


def bound_names(node):
    """The names that a node binds."""
    if isinstance(node, (ast.FunctionDef, ast.ClassDef)):
        return [node.name]
    if isinstance(node, ast.arg):
        return [node.arg]
    if isinstance(node, ast.Name) and isinstance(node.ctx, ast.Store):
        return [node.id]
    if isinstance(node, ast.Attribute) and isinstance(node.ctx, ast.Store):
        return [node.attr]
    return []


def own_methods():
    found = []
    for path in FILES:
        for node in nodes_of(path):
            if isinstance(node, ast.ClassDef):
                found += [inner.name for inner in node.body if isinstance(inner, ast.FunctionDef)]
    return found


class Form(unittest.TestCase):
    def test_files(self):
        self.assertIn(PACKAGE / "__init__.py", FILES)
        for path in FILES:
            self.assertRegex(path.name, r"^[a-z0-9_]+\.py$")

    def test_signs_and_sizes(self):
        for path in FILES:
            text = path.read_text(encoding="utf-8")
            with self.subTest(path.name):
                self.assertEqual([sign for sign in text if sign != "\n" and not " " <= sign <= "~"], [])
                self.assertLessEqual(len(text.splitlines()), 400)
                self.assertLessEqual(max(map(len, text.splitlines())), 120)
                self.assertIsNone(WORDS.search(text))
            for node in nodes_of(path):
                if isinstance(node, ast.FunctionDef):
                    self.assertLessEqual(node.end_lineno - node.lineno + 1, 40, node.name)

    def test_kinds_of_code(self):
        for path in FILES:
            for node in nodes_of(path):
                with self.subTest(path=path.name, line=getattr(node, "lineno", 0)):
                    self.assertIn(type(node).__name__, KINDS)
                    if isinstance(node, ast.Constant):
                        self.assertIn(type(node.value), (int, str, bool, type(None)))
                    if isinstance(node, ast.Assign):
                        self.assertEqual(len(node.targets), 1)
                    if isinstance(node, (ast.For, ast.While)):
                        self.assertEqual(node.orelse, [])
                    if isinstance(node, ast.Try):
                        self.assertEqual(node.finalbody, [])
                    if isinstance(node, (ast.FunctionDef, ast.ClassDef)):
                        self.assertEqual(node.decorator_list, [])

    def test_imports(self):
        for path in FILES:
            tree = ast.parse(path.read_text(encoding="utf-8"))
            rows = [node for node in ast.walk(tree) if isinstance(node, ast.ImportFrom)]
            for node in rows:
                with self.subTest(path=path.name, line=node.lineno):
                    self.assertIn(node, tree.body)
                    self.assertEqual(node.level, 0)
                    self.assertRegex(node.module, r"^commonform\.[a-z0-9_]+$")
                    self.assertEqual([name.name for name in node.names if name.name == "*" or name.asname], [])

    def test_names(self):
        for path in FILES:
            for node in nodes_of(path):
                for name in bound_names(node):
                    with self.subTest(path=path.name, line=node.lineno, name=name):
                        self.assertTrue(name in DUNDERS or re.fullmatch(r"[A-Za-z][A-Za-z0-9_]*", name))
                        self.assertNotIn(name, vars(builtins))
                if isinstance(node, ast.Name) and node.id in vars(builtins):
                    with self.subTest(path=path.name, line=node.lineno):
                        self.assertIn(node.id, OWN_OF_PYTHON)

    def test_methods(self):
        allowed = METHODS | set(own_methods())
        for path in FILES:
            for node in nodes_of(path):
                if isinstance(node, ast.Call) and isinstance(node.func, ast.Attribute):
                    with self.subTest(path=path.name, line=node.lineno):
                        self.assertIn(node.func.attr, allowed)

    def test_locals_are_not_called_like_imports_or_classes(self):
        for path in FILES:
            nodes = nodes_of(path)
            taken = {name.name for node in nodes if isinstance(node, ast.ImportFrom) for name in node.names}
            taken |= {node.name for node in nodes if isinstance(node, ast.ClassDef)}
            for node in nodes:
                if isinstance(node, (ast.Name, ast.arg, ast.FunctionDef)):
                    with self.subTest(path=path.name, line=node.lineno):
                        self.assertEqual(taken.intersection(bound_names(node)), set())

    def test_no_name_is_a_method_and_a_value(self):
        values = {
            name for path in FILES for node in nodes_of(path) if isinstance(node, ast.Attribute) for name in bound_names(node)
        }
        self.assertEqual(values & (METHODS | set(own_methods())), set())

    def test_no_round_of_imports(self):
        drawn = {}
        for path in FILES:
            rows = [node for node in nodes_of(path) if isinstance(node, ast.ImportFrom)]
            drawn["commonform." + path.stem] = {node.module for node in rows}
        while drawn:
            ends = [name for name in drawn if not drawn[name] & set(drawn)]
            self.assertNotEqual(ends, [], drawn)
            for name in ends:
                drawn.pop(name)

    def test_is_stands_beside_none_and_truths_alone(self):
        for path in FILES:
            for node in nodes_of(path):
                if isinstance(node, ast.Compare) and isinstance(node.ops[0], (ast.Is, ast.IsNot)):
                    with self.subTest(path=path.name, line=node.lineno):
                        self.assertIn(ast.unparse(node.comparators[0]), ("None", "True", "False"))


if __name__ == "__main__":
    unittest.main()
