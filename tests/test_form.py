"""The form of the package's code, as far as it can be seen from its files."""

import ast
import builtins
import pathlib
import re
import unittest

PACKAGE = pathlib.Path(__file__).resolve().parent.parent / "cutanew"

STATEMENTS = (
    ast.Module, ast.FunctionDef, ast.ClassDef, ast.ImportFrom, ast.Assign, ast.AugAssign, ast.If, ast.While, ast.For,
    ast.Return, ast.Break, ast.Continue, ast.Pass, ast.Raise, ast.Try, ast.Expr,
)
EXPRESSIONS = (
    ast.Constant, ast.List, ast.Tuple, ast.Dict, ast.BinOp, ast.UnaryOp, ast.BoolOp, ast.Compare, ast.IfExp, ast.Call,
    ast.Attribute, ast.Subscript, ast.Slice, ast.ListComp, ast.JoinedStr, ast.FormattedValue, ast.Name, ast.Lambda,
)
OWN_NAMES = set(
    "len range enumerate zip min max sum abs sorted reversed int str bool list tuple dict set frozenset isinstance ord"
    " repr any all divmod Exception ValueError TypeError KeyError IndexError LookupError ZeroDivisionError"
    " ArithmeticError OverflowError RuntimeError NotImplementedError AttributeError StopIteration".split()
)
METHODS = set(
    "append clear copy count endswith extend find get index insert isalnum isalpha isdigit islower isspace isupper"
    " items join keys ljust lower lstrip partition pop remove replace reverse rfind rjust rpartition rsplit rstrip"
    " setdefault split splitlines startswith strip update upper values zfill bit_length".split()
)
WORDS = re.compile(
    r"\b(type|typing|typing_extensions|enum|Enum|IntEnum|StrEnum|Flag|IntFlag|Generic|Protocol|ABC|ABCMeta|namedtuple"
    r"|NamedTuple|TypedDict|TYPE_CHECKING|abstractmethod)\b|dataclass|overload|contextmanager"
)


def sources():
    return sorted(path for path in PACKAGE.iterdir() if path.name != "__pycache__")


def trees():
    return [(path.name, ast.parse(path.read_text("utf-8"))) for path in sources()]


def nodes():
    return [(name, node) for name, tree in trees() for node in ast.walk(tree)]


class Form(unittest.TestCase):
    def test_files(self):
        for path in sources():
            self.assertRegex(path.name, r"^[a-z0-9_]+\.py$")
            whole = path.read_text("utf-8")
            self.assertRegex(whole, r"\A[ -~\n]*\Z", path.name)
            self.assertIsNone(WORDS.search(whole), path.name)
            self.assertLessEqual(len(whole.splitlines()), 400, path.name)
            self.assertLessEqual(max(len(line) for line in whole.splitlines()), 120, path.name)

    def test_statements_and_expressions(self):
        for name, node in nodes():
            if isinstance(node, ast.stmt):
                self.assertIsInstance(node, STATEMENTS, name)
            if isinstance(node, ast.expr):
                self.assertIsInstance(node, EXPRESSIONS, name)
            if isinstance(node, (ast.For, ast.While)):
                self.assertEqual(node.orelse, [], name)
            if isinstance(node, ast.Assign):
                self.assertEqual(len(node.targets), 1, name)
                self.assertIsInstance(node.targets[0], (ast.Name, ast.Attribute, ast.Subscript), name)
            if isinstance(node, ast.BinOp):
                self.assertNotIsInstance(node.op, (ast.Div, ast.MatMult), name)
            if isinstance(node, ast.Constant):
                self.assertIn(node.value.__class__, (int, str, bool, None.__class__), name)
                self.assertNotIn("%", str(node.value), name)

    def test_functions(self):
        for name, node in nodes():
            if isinstance(node, ast.FunctionDef):
                self.assertLessEqual(node.end_lineno - node.lineno + 1, 40, node.name)
                self.assertEqual(node.decorator_list, [], node.name)
                self.assertIsNone(node.args.vararg or node.args.kwarg, node.name)
                self.assertEqual(node.args.kwonlyargs, [], node.name)

    def test_imports(self):
        for name, node in nodes():
            if isinstance(node, ast.ImportFrom):
                self.assertEqual(node.level, 0, name)
                self.assertTrue(node.module.startswith("cutanew."), name)

    def test_no_two_files_draw_from_one_another(self):
        drawn = {
            name[:-3]: {node.module.split(".")[1] for node in ast.walk(tree) if isinstance(node, ast.ImportFrom)}
            for name, tree in trees()
        }
        while drawn:
            free = [name for name in drawn if not drawn[name] & set(drawn)]
            self.assertNotEqual(free, [], drawn)
            for name in free:
                drawn.pop(name)

    def test_locals_are_not_called_like_classes_or_imports(self):
        for name, tree in trees():
            taken = {node.name for node in tree.body if isinstance(node, ast.ClassDef)}
            for node in tree.body:
                if isinstance(node, ast.ImportFrom):
                    taken |= {part.name for part in node.names}
            for node in ast.walk(tree):
                if isinstance(node, ast.arg):
                    self.assertNotIn(node.arg, taken, name)
                if isinstance(node, ast.Name) and isinstance(node.ctx, ast.Store):
                    self.assertNotIn(node.id, taken, name)

    def test_names(self):
        for name, node in nodes():
            if isinstance(node, ast.Name):
                self.assertFalse(node.id.startswith("_"), name)
                if hasattr(builtins, node.id):
                    self.assertIn(node.id, OWN_NAMES, name)
                    self.assertIsInstance(node.ctx, ast.Load, name)
            if isinstance(node, ast.arg):
                self.assertFalse(hasattr(builtins, node.arg), name)
            if isinstance(node, ast.FunctionDef):
                self.assertTrue(node.name == "__init__" or not node.name.startswith("_"), node.name)

    def test_methods_and_values(self):
        methods = set()
        values = set()
        called = set()
        for _, node in nodes():
            if isinstance(node, ast.ClassDef):
                methods |= {part.name for part in node.body if isinstance(part, ast.FunctionDef)}
            if isinstance(node, ast.Call) and isinstance(node.func, ast.Attribute):
                called.add(node.func.attr)
            if isinstance(node, ast.Attribute) and isinstance(node.ctx, ast.Store):
                values.add(node.attr)
        self.assertEqual(methods & values, set())
        self.assertEqual(called - methods - METHODS, set())


if __name__ == "__main__":
    unittest.main()
