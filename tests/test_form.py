"""The rules of the language that a plain look at the package's files can tell."""

import ast
import builtins
import pathlib
import re
import unittest

PACKAGE = pathlib.Path(__file__).resolve().parent.parent / "againbook"

ALLOWED_BUILTINS = set(
    "len range enumerate zip min max sum abs sorted reversed int str bool list tuple dict set frozenset isinstance "
    "ord repr any all divmod Exception ValueError TypeError KeyError IndexError LookupError ZeroDivisionError "
    "ArithmeticError OverflowError RuntimeError NotImplementedError AttributeError StopIteration".split()
)

BARRED_NODES = (
    ast.With, ast.Match, ast.Delete, ast.Global, ast.Nonlocal, ast.Assert, ast.Yield, ast.YieldFrom, ast.Await,
    ast.AsyncFor, ast.AsyncFunctionDef, ast.AsyncWith, ast.SetComp, ast.DictComp, ast.GeneratorExp, ast.NamedExpr,
    ast.Starred, ast.Div, ast.Import,
)

BARRED_WORDS = re.compile(
    r"\b(type|typing|typing_extensions|enum|Enum|IntEnum|StrEnum|Flag|IntFlag|Generic|Protocol|ABC|ABCMeta|namedtuple"
    r"|NamedTuple|TypedDict|TYPE_CHECKING|abstractmethod)\b|dataclass|overload|contextmanager"
)


def package_files():
    return [path for path in sorted(PACKAGE.rglob("*")) if path.is_file() and "__pycache__" not in path.parts]


class FormTest(unittest.TestCase):
    def setUp(self):
        self.texts = {path.name: path.read_text(encoding="utf-8") for path in package_files()}
        self.trees = {name: ast.parse(text) for name, text in self.texts.items()}

    def nodes(self):
        for name, tree in self.trees.items():
            for node in ast.walk(tree):
                yield name, node

    def test_files(self):
        self.assertIn("__init__.py", self.texts)
        for name in self.texts:
            self.assertRegex(name, r"^[a-z0-9_]+\.py$")

    def test_sizes_and_signs(self):
        for name, text in self.texts.items():
            rows = text.splitlines()
            self.assertLessEqual(len(rows), 400, name)
            self.assertLessEqual(max([len(row) for row in rows]), 120, name)
            self.assertRegex(text, r"^[ -~\n]*$", name)
            self.assertIsNone(BARRED_WORDS.search(text), name)

    def test_functions(self):
        for name, node in self.nodes():
            if isinstance(node, ast.FunctionDef):
                self.assertLessEqual(node.end_lineno - node.lineno + 1, 40, (name, node.name))
                self.assertEqual(node.decorator_list, [], (name, node.name))
                self.assertIsNone(node.args.vararg or node.args.kwarg, (name, node.name))

    def test_statements_and_expressions(self):
        for name, node in self.nodes():
            self.assertNotIsInstance(node, BARRED_NODES, (name, getattr(node, "lineno", None)))
            if isinstance(node, ast.Constant):
                self.assertNotIsInstance(node.value, (float, complex, bytes), (name, node.lineno))

    def test_imports(self):
        for name, node in self.nodes():
            if isinstance(node, ast.ImportFrom):
                self.assertEqual(node.level, 0, (name, node.lineno))
                self.assertRegex(node.module, r"^(againbook\.[a-z_]+|__future__)$", (name, node.lineno))

    def test_names_of_pythons_own(self):
        for name, node in self.nodes():
            if isinstance(node, ast.Name) and hasattr(builtins, node.id):
                self.assertIn(node.id, ALLOWED_BUILTINS, (name, node.lineno))
                self.assertIsInstance(node.ctx, ast.Load, (name, node.lineno))

    def test_no_name_is_a_method_and_a_value(self):
        methods, values = set(), set()
        for _, node in self.nodes():
            if isinstance(node, ast.ClassDef):
                methods |= {one.name for one in node.body if isinstance(one, ast.FunctionDef)}
            if isinstance(node, ast.Attribute) and isinstance(node.ctx, ast.Store):
                values.add(node.attr)
        self.assertEqual(methods & values, set())

    def test_no_local_is_called_like_a_class_or_an_import(self):
        for name, tree in self.trees.items():
            taken = {node.name for node in tree.body if isinstance(node, ast.ClassDef)}
            taken |= {one.asname or one.name for node in tree.body if isinstance(node, ast.ImportFrom)
                      for one in node.names}
            for node in ast.walk(tree):
                if isinstance(node, ast.arg):
                    self.assertNotIn(node.arg, taken, (name, node.lineno))
                if isinstance(node, ast.Name) and isinstance(node.ctx, ast.Store):
                    self.assertNotIn(node.id, taken, (name, node.lineno))

    def test_one_name_is_given_at_a_time(self):
        for name, node in self.nodes():
            if isinstance(node, ast.Assign):
                self.assertEqual(len(node.targets), 1, (name, node.lineno))
                self.assertNotIsInstance(node.targets[0], (ast.Tuple, ast.List), (name, node.lineno))


if __name__ == "__main__":
    unittest.main()
