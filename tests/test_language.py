"""The package draws on nothing but itself and a small part of Python: no clock, chance or files can come in."""

import ast
import builtins
import re
import unittest
from pathlib import Path

PACKAGE = Path(__file__).resolve().parent.parent / "threefree"

OWN_NAMES_OF_PYTHON = set("""
    len range enumerate zip min max sum abs sorted reversed int str bool list tuple dict set frozenset isinstance ord
    repr any all divmod Exception ValueError TypeError KeyError IndexError LookupError ZeroDivisionError
    ArithmeticError OverflowError RuntimeError NotImplementedError AttributeError StopIteration
""".split())

STATEMENTS_AND_EXPRESSIONS = set("""
    Module Expr Constant ImportFrom alias FunctionDef arguments arg ClassDef Assign AugAssign If While For Return
    Break Continue Pass Raise Try ExceptHandler Call keyword Name Load Store Attribute Subscript Slice List Tuple
    Dict Set ListComp comprehension BinOp BoolOp UnaryOp Compare IfExp JoinedStr FormattedValue Lambda Add Sub Mult
    FloorDiv Mod Pow BitAnd BitOr BitXor LShift RShift Invert And Or Not USub UAdd Eq NotEq Lt LtE Gt GtE Is IsNot
    In NotIn
""".split())

WORDS_LEFT_OUT = re.compile(r"""
    \b(type|typing|typing_extensions|enum|Enum|IntEnum|StrEnum|Flag|IntFlag|Generic|Protocol|ABC|ABCMeta|namedtuple
    |NamedTuple|TypedDict|TYPE_CHECKING|abstractmethod)\b | dataclass | overload | contextmanager
""", re.VERBOSE)

METHODS = set("""
    append clear copy count endswith extend find get index insert isalnum isalpha isdigit islower isspace isupper items
    join keys ljust lower lstrip partition pop remove replace reverse rfind rjust rpartition rsplit rstrip setdefault
    split splitlines startswith strip update upper values zfill bit_length __init__
""".split())

DUNDERS = {"__init__", "__eq__", "__repr__", "__str__", "__len__"}


def files():
    return sorted(path for path in PACKAGE.rglob("*") if path.is_file() and "__pycache__" not in path.parts)


def nodes():
    for path in files():
        for node in ast.walk(ast.parse(path.read_text(encoding="utf-8"))):
            yield path, node


def top_names(path):
    names = []
    for row in ast.parse(path.read_text(encoding="utf-8")).body:
        if isinstance(row, (ast.FunctionDef, ast.ClassDef)):
            names.append(row.name)
        if isinstance(row, ast.Assign):
            names += [target.id for target in row.targets]
    return names


def drawn_from(path):
    rows = ast.parse(path.read_text(encoding="utf-8")).body
    return [row.module for row in rows if isinstance(row, ast.ImportFrom)]


def imported(path):
    rows = ast.parse(path.read_text(encoding="utf-8")).body
    return {name.name for row in rows if isinstance(row, ast.ImportFrom) for name in row.names}


class Files(unittest.TestCase):
    def test_only_plain_python_files(self):
        self.assertTrue((PACKAGE / "__init__.py").is_file())
        for path in files():
            self.assertRegex(path.name, r"^[a-z0-9_]+\.py$")

    def test_sizes_and_signs(self):
        for path in files():
            text = path.read_bytes().decode("ascii")
            rows = text.split("\n")
            self.assertLessEqual(len(rows), 400, path)
            self.assertLessEqual(max(len(row) for row in rows), 120, path)
            self.assertRegex(text, r"\A[ -~\n]*\Z", path)
            self.assertIsNone(WORDS_LEFT_OUT.search(text), path)

    def test_functions_are_short(self):
        for path, node in nodes():
            if isinstance(node, ast.FunctionDef):
                self.assertLessEqual(node.end_lineno - node.lineno + 1, 40, (path, node.name))


class Language(unittest.TestCase):
    def test_imports_are_the_packages_own(self):
        for path, node in nodes():
            if isinstance(node, ast.ImportFrom):
                self.assertEqual(node.level, 0, path)
                self.assertEqual(node.module.split(".")[0], "threefree", path)
                source = PACKAGE.parent.joinpath(*node.module.split(".")).with_suffix(".py")
                self.assertLessEqual({name.name for name in node.names}, set(top_names(source)), path)

    def test_only_allowed_forms(self):
        for path, node in nodes():
            self.assertIn(type(node).__name__, STATEMENTS_AND_EXPRESSIONS, (path, getattr(node, "lineno", 0)))
            if isinstance(node, ast.Constant):
                self.assertIn(type(node.value), (int, str, bool, type(None)), (path, node.lineno))
            if isinstance(node, ast.Assign):
                self.assertEqual(len(node.targets), 1, (path, node.lineno))

    def test_only_allowed_names(self):
        for path, node in nodes():
            if isinstance(node, ast.Name) and node.id in dir(builtins):
                self.assertIn(node.id, OWN_NAMES_OF_PYTHON, (path, node.lineno))
                self.assertIsInstance(node.ctx, ast.Load, (path, node.lineno))
            if isinstance(node, ast.arg):
                self.assertNotIn(node.arg, dir(builtins), (path, node.lineno))
            for name in (getattr(node, "id", None), getattr(node, "attr", None), getattr(node, "name", None)):
                if name is not None and name not in DUNDERS:
                    self.assertRegex(name, r"^[A-Za-z]", (path, name))

    def test_only_allowed_methods(self):
        for path, node in nodes():
            if isinstance(node, ast.Call) and isinstance(node.func, ast.Attribute):
                self.assertIn(node.func.attr, METHODS, (path, node.lineno))

    def test_only_plain_comparisons_and_comprehensions(self):
        for path, node in nodes():
            if isinstance(node, ast.Compare) and any(isinstance(sign, (ast.Is, ast.IsNot)) for sign in node.ops):
                self.assertIsInstance(node.comparators[0], ast.Constant, (path, node.lineno))
            if isinstance(node, ast.ListComp):
                self.assertEqual(len(node.generators), 1, (path, node.lineno))
                self.assertLessEqual(len(node.generators[0].ifs), 1, (path, node.lineno))
            if isinstance(node, (ast.For, ast.While, ast.Try)):
                self.assertFalse(getattr(node, "finalbody", []), (path, node.lineno))
                self.assertTrue(isinstance(node, ast.Try) or not node.orelse, (path, node.lineno))

    def test_each_name_means_one_thing_in_a_file(self):
        for path in files():
            names = top_names(path) + sorted(imported(path))
            self.assertEqual(len(set(names)), len(names), path)
        for path, node in nodes():
            if isinstance(node, ast.arg):
                self.assertNotIn(node.arg, imported(path), (path, node.lineno))
            if isinstance(node, ast.Name) and isinstance(node.ctx, ast.Store):
                self.assertNotIn(node.id, imported(path), (path, node.lineno))

    def test_no_two_files_draw_from_one_another(self):
        sources = {"threefree." + path.stem: drawn_from(path) for path in files()}
        settled = []
        while len(settled) < len(sources):
            ready = [name for name in sources if name not in settled and set(sources[name]) <= set(settled)]
            self.assertTrue(ready, sources)
            settled += ready


if __name__ == "__main__":
    unittest.main()
