"""Looks through the package's own files for what the language rules leave out, as far as that is easily seen."""

import ast
import builtins
import pathlib
import re
import unittest

PACKAGE = pathlib.Path(__file__).resolve().parent.parent / "bothhands"
STATEMENTS = (
    ast.Module, ast.ImportFrom, ast.FunctionDef, ast.ClassDef, ast.Assign, ast.AugAssign, ast.If, ast.While, ast.For,
    ast.Return, ast.Break, ast.Continue, ast.Pass, ast.Raise, ast.Try, ast.ExceptHandler, ast.Expr,
)
EXPRESSIONS = (
    ast.Constant, ast.Name, ast.List, ast.Tuple, ast.Dict, ast.BinOp, ast.UnaryOp, ast.BoolOp, ast.Compare, ast.IfExp,
    ast.Call, ast.Attribute, ast.Subscript, ast.Slice, ast.ListComp, ast.comprehension, ast.Lambda, ast.JoinedStr,
    ast.FormattedValue, ast.keyword, ast.arguments, ast.arg, ast.alias, ast.operator, ast.unaryop, ast.boolop,
    ast.cmpop, ast.expr_context,
)
LEFT_OUT = (ast.Div, ast.MatMult)
OWN_NAMES = set(
    "len range enumerate zip min max sum abs sorted reversed int str bool list tuple dict set frozenset isinstance ord "
    "repr any all divmod Exception ValueError TypeError KeyError IndexError LookupError ZeroDivisionError "
    "ArithmeticError OverflowError RuntimeError NotImplementedError".split())
OWN_METHODS = set(
    "append clear copy count endswith extend find get index insert isalnum isalpha isdigit islower isspace isupper "
    "items join keys ljust lower lstrip partition pop remove replace reverse rfind rjust rpartition rsplit rstrip "
    "setdefault split splitlines startswith strip update upper values zfill bit_length".split())
WORDS = re.compile(
    r"\b(type|typing|typing_extensions|enum|Enum|IntEnum|StrEnum|Flag|IntFlag|Generic|Protocol|ABC|ABCMeta|namedtuple|"
    r"NamedTuple|TypedDict|TYPE_CHECKING|abstractmethod)\b|dataclass|overload|contextmanager")
UNUSED = set("register mro elements open input version_info with_traceback add_note format format_map".split())


def names_bound(tree):
    for node in ast.walk(tree):
        if isinstance(node, (ast.FunctionDef, ast.ClassDef)):
            yield node.name
        elif isinstance(node, ast.arg):
            yield node.arg
        elif isinstance(node, ast.Name) and isinstance(node.ctx, ast.Store):
            yield node.id
        elif isinstance(node, ast.Attribute):
            yield node.attr


class Form(unittest.TestCase):
    def setUp(self):
        self.files = sorted(PACKAGE.glob("*.py"))
        self.trees = [(path, ast.parse(path.read_text("utf-8"))) for path in self.files]
        self.methods = {node.name for path, tree in self.trees for node in ast.walk(tree)
                        if isinstance(node, ast.FunctionDef)}

    def test_nothing_else_lies_in_the_package(self):
        others = [path.name for path in PACKAGE.iterdir() if path not in self.files and path.name != "__pycache__"]
        self.assertEqual(others, [])
        self.assertIn(PACKAGE / "__init__.py", self.files)
        for path in self.files:
            self.assertRegex(path.name, r"^([a-z][a-z0-9_]*|__init__|__main__)\.py$")

    def test_signs_words_and_sizes(self):
        for path in self.files:
            rows = path.read_text("utf-8").split("\n")
            self.assertLessEqual(len(rows), 401, path)
            for row in rows:
                self.assertRegex(row, r"^[ -~]{0,120}$", path)
                self.assertIsNone(WORDS.search(row), (path, row))

    def test_functions_are_short(self):
        for path, tree in self.trees:
            for node in ast.walk(tree):
                if isinstance(node, ast.FunctionDef):
                    self.assertLessEqual(node.end_lineno - node.lineno + 1, 40, (path, node.name))
                    self.assertEqual(node.decorator_list, [])

    def test_statements_and_expressions(self):
        for path, tree in self.trees:
            for node in ast.walk(tree):
                self.assertIsInstance(node, STATEMENTS + EXPRESSIONS, path)
                self.assertNotIsInstance(node, LEFT_OUT, path)
                if isinstance(node, ast.Constant):
                    self.assertNotIsInstance(node.value, (float, bytes, complex), path)
                if isinstance(node, ast.Assign):
                    self.assertEqual(len(node.targets), 1, (path, node.lineno))

    def test_imports(self):
        for path, tree in self.trees:
            for node in ast.walk(tree):
                if isinstance(node, ast.ImportFrom):
                    self.assertIn(node, tree.body)
                    self.assertEqual(node.level, 0)
                    self.assertRegex(node.module, r"^bothhands\.[a-z]+$")
                    self.assertIn(PACKAGE / (node.module.split(".")[1] + ".py"), self.files)
                    self.assertNotIn("*", [alias.name for alias in node.names])

    def test_imported_names_are_defined_there_and_no_two_files_draw_from_one_another(self):
        defined, drawn = {}, {}
        for path, tree in self.trees:
            nodes = [node for node in tree.body if isinstance(node, (ast.FunctionDef, ast.ClassDef))]
            values = [node.targets[0].id for node in tree.body if isinstance(node, ast.Assign)]
            defined["bothhands." + path.stem] = [node.name for node in nodes] + values
            drawn["bothhands." + path.stem] = [node for node in tree.body if isinstance(node, ast.ImportFrom)]
        for nodes in drawn.values():
            for node in nodes:
                self.assertLessEqual({alias.name for alias in node.names}, set(defined[node.module]))
        done = []
        while len(done) < len(drawn):
            free = [name for name, nodes in drawn.items()
                    if name not in done and all(node.module in done for node in nodes)]
            self.assertNotEqual(free, [])
            done += free

    def test_no_local_is_called_like_a_class_or_an_import(self):
        for path, tree in self.trees:
            taken = {alias.asname or alias.name for node in ast.walk(tree) if isinstance(node, ast.ImportFrom)
                     for alias in node.names} | {node.name for node in tree.body if isinstance(node, ast.ClassDef)}
            for node in ast.walk(tree):
                if isinstance(node, ast.arg):
                    self.assertNotIn(node.arg, taken, path)
                if isinstance(node, ast.Name) and isinstance(node.ctx, ast.Store):
                    self.assertNotIn(node.id, taken, path)

    def test_no_name_is_both_a_method_and_a_value(self):
        methods, values = set(), set()
        for path, tree in self.trees:
            for node in ast.walk(tree):
                if isinstance(node, ast.ClassDef):
                    methods |= {method.name for method in node.body if isinstance(method, ast.FunctionDef)}
                if isinstance(node, ast.Attribute) and isinstance(node.ctx, ast.Store):
                    values.add(node.attr)
        self.assertEqual(methods & values, set())

    def test_names(self):
        for path, tree in self.trees:
            for name in names_bound(tree):
                if name not in ("__init__", "__eq__", "__repr__", "__str__", "__len__"):
                    self.assertRegex(name, r"^[A-Za-z][A-Za-z0-9_]*$", path)
                self.assertNotIn(name, UNUSED, path)
            for node in ast.walk(tree):
                if isinstance(node, ast.Name) and hasattr(builtins, node.id):
                    self.assertIn(node.id, OWN_NAMES, (path, node.lineno))
                    self.assertIsInstance(node.ctx, ast.Load, (path, node.lineno))
                if isinstance(node, ast.arg):
                    self.assertFalse(hasattr(builtins, node.arg), (path, node.lineno))

    def test_methods(self):
        for path, tree in self.trees:
            for node in ast.walk(tree):
                if isinstance(node, ast.Call) and isinstance(node.func, ast.Attribute):
                    self.assertIn(node.func.attr, OWN_METHODS | self.methods, (path, node.lineno))


if __name__ == "__main__":
    unittest.main()
