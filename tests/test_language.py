"""The package keeps to its part of Python. Not every rule is looked at here, but the ones that slip most easily."""

import ast
import builtins
import re
import unittest
from pathlib import Path

PACKAGE = Path(__file__).resolve().parent.parent / "batchculprits"
FILES = sorted(PACKAGE.glob("*.py"))

GRANTED_NAMES = set(
    "len range enumerate zip min max sum abs sorted reversed int str bool list tuple dict set frozenset "
    "isinstance ord repr any all divmod Exception ValueError TypeError KeyError IndexError LookupError "
    "ZeroDivisionError ArithmeticError OverflowError RuntimeError NotImplementedError AttributeError "
    "StopIteration".split())
GRANTED_METHODS = set(
    "append clear copy count endswith extend find get index insert isalnum isalpha isdigit islower isspace "
    "isupper items join keys ljust lower lstrip partition pop remove replace reverse rfind rjust rpartition "
    "rsplit rstrip setdefault split splitlines startswith strip update upper values zfill bit_length".split())
WORDS_OUT = re.compile(
    r"\b(type|typing|typing_extensions|enum|Enum|IntEnum|StrEnum|Flag|IntFlag|Generic|Protocol|ABC|ABCMeta|"
    r"namedtuple|NamedTuple|TypedDict|TYPE_CHECKING|abstractmethod)\b|dataclass|overload|contextmanager")
NODES_OUT = (
    ast.With, ast.Match, ast.Delete, ast.Global, ast.Nonlocal, ast.Assert, ast.Yield, ast.YieldFrom,
    ast.AsyncFunctionDef, ast.Await, ast.Import, ast.SetComp, ast.DictComp, ast.GeneratorExp, ast.NamedExpr,
    ast.Starred, ast.Div, ast.MatMult)
TWO_UNDERSCORES = ("__init__", "__eq__", "__repr__", "__str__", "__len__")


def nodes(kind):
    """All nodes of one kind, each with a text that tells where it stands."""
    for file in FILES:
        for node in ast.walk(ast.parse(file.read_text())):
            if isinstance(node, kind):
                yield node, "{}:{}".format(file.name, getattr(node, "lineno", 0))


def own_methods():
    return {part.name for node, where in nodes(ast.ClassDef) for part in node.body if isinstance(part, ast.FunctionDef)}


def own_values():
    return {node.attr for node, where in nodes(ast.Attribute) if isinstance(node.ctx, ast.Store)}


class Language(unittest.TestCase):
    def test_files_and_signs(self):
        there = [path for path in PACKAGE.iterdir() if path.name != "__pycache__"]
        self.assertEqual(sorted(there), FILES)
        for file in FILES:
            self.assertRegex(file.name, r"^[a-z0-9_]+\.py$")
            self.assertRegex(file.read_bytes(), rb"^[ -~\n]*$")

    def test_size(self):
        for file in FILES:
            rows = file.read_text().splitlines()
            self.assertLessEqual(len(rows), 400, file.name)
            self.assertLessEqual(max(len(row) for row in rows), 120, file.name)
        for node, where in nodes(ast.FunctionDef):
            self.assertLessEqual(node.end_lineno - node.lineno + 1, 40, where)

    def test_words(self):
        for file in FILES:
            self.assertIsNone(WORDS_OUT.search(file.read_text()), file.name)

    def test_imports(self):
        for node, where in nodes(ast.ImportFrom):
            self.assertTrue(node.level == 0 and node.module.startswith("batchculprits."), where)

    def test_statements_and_expressions(self):
        for node, where in nodes(NODES_OUT):
            self.fail("{} at {}".format(node.__class__.__name__, where))
        for node, where in nodes((ast.For, ast.While)):
            self.assertEqual(node.orelse, [], where)
        for node, where in nodes(ast.Assign):
            self.assertEqual(len(node.targets), 1, where)
        for node, where in nodes(ast.Constant):
            self.assertNotIsInstance(node.value, (float, bytes), where)

    def test_functions(self):
        for node, where in nodes(ast.FunctionDef):
            self.assertEqual(node.decorator_list, [], where)
            self.assertEqual((node.args.vararg, node.args.kwarg, node.args.kwonlyargs), (None, None, []), where)

    def test_names(self):
        for node, where in nodes(ast.Name):
            self.assertRegex(node.id, r"^[A-Za-z][A-Za-z0-9_]*$", where)
            self.assertTrue(node.id in GRANTED_NAMES or not hasattr(builtins, node.id), where)
            self.assertFalse(isinstance(node.ctx, ast.Store) and hasattr(builtins, node.id), where)
        for node, where in nodes(ast.arg):
            self.assertFalse(node.arg.startswith("_") or hasattr(builtins, node.arg), where)
        for node, where in nodes(ast.FunctionDef):
            self.assertTrue(node.name in TWO_UNDERSCORES or not node.name.startswith("_"), where)

    def test_methods_and_values(self):
        self.assertEqual(own_methods() & own_values(), set())
        for node, where in nodes(ast.Attribute):
            self.assertIn(node.attr, own_methods() | own_values() | GRANTED_METHODS, where)


if __name__ == "__main__":
    unittest.main()
