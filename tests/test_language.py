"""The rules of shared/LANGUAGE.md that a look at the package's files can tell, by their numbers."""

import ast
import builtins
import pathlib
import re
import unittest
import warnings

PACKAGE = pathlib.Path(__file__).resolve().parent.parent / "pagemaker"

BUILTINS = set(
    "len range enumerate zip min max sum abs sorted reversed int str bool bytes list tuple dict set frozenset "
    "isinstance ord repr any all divmod Exception ValueError TypeError KeyError IndexError LookupError "
    "ZeroDivisionError ArithmeticError OverflowError RuntimeError NotImplementedError AttributeError "
    "StopIteration NotImplemented".split()
)
BARRED_WORDS = re.compile(
    r"\b(type|typing|typing_extensions|enum|Enum|IntEnum|StrEnum|Flag|IntFlag|Generic|Protocol|ABC|ABCMeta|namedtuple"
    r"|NamedTuple|TypedDict|TYPE_CHECKING|abstractmethod)\b|dataclass|overload|contextmanager"
)
BARRED_NODES = (
    ast.Global, ast.AsyncFunctionDef, ast.AsyncFor, ast.AsyncWith, ast.Await, ast.Div, ast.MatMult, ast.Import,
    ast.GeneratorExp, ast.Match, ast.Yield, ast.YieldFrom,
)
DOUBLE_UNDERSCORE = {"__init__", "__eq__", "__repr__", "__str__", "__len__"}
METHODS = set(
    "append clear copy count endswith extend find get index insert isalnum isalpha isdigit islower isspace isupper "
    "items join keys ljust lower lstrip partition pop remove replace reverse rfind rjust rpartition rsplit rstrip "
    "setdefault split splitlines startswith strip update upper values zfill bit_length".split()
)
BUILTIN_NAMES = {name for kind in (str, int, list, dict, set, bytes, tuple) for name in dir(kind)}


def files():
    """The pairs of the package's files and their texts."""
    return [(path, path.read_text(encoding="utf-8")) for path in sorted(PACKAGE.glob("**/*.py"))]


def nodes(*kinds):
    """The pairs (file's name, node) of all nodes of these kinds."""
    return [
        (path.name, node) for path, text in files() for node in ast.walk(ast.parse(text)) if isinstance(node, kinds)
    ]


def own_imports(text):
    """The names of the package's files from which a file imports."""
    found = [node.module for node in ast.parse(text).body if isinstance(node, ast.ImportFrom)]
    return [module.split(".")[1] for module in found]


class LanguageTest(unittest.TestCase):
    def test_only_python_files(self):
        for path in PACKAGE.iterdir():
            if path.name != "__pycache__":
                self.assertRegex(path.name, r"^[a-z_]+\.py$", "L1")

    def test_signs(self):
        for path, text in files():
            self.assertEqual([sign for sign in text if sign != "\n" and not " " <= sign <= "~"], [], (path, "L14"))
            self.assertIsNone(BARRED_WORDS.search(text), (path, "L17"))

    def test_sizes(self):
        for path, text in files():
            rows = text.split("\n")
            self.assertLessEqual(len(rows), 400, (path, "L10"))
            self.assertLessEqual(max([len(row) for row in rows]), 120, (path, "L10"))
        for name, node in nodes(ast.FunctionDef):
            self.assertLessEqual(node.end_lineno - node.lineno + 1, 40, (name, node.name, "L10"))

    def test_imports(self):
        for name, node in nodes(ast.ImportFrom):
            self.assertEqual(node.level, 0, (name, "L2"))
            self.assertRegex(node.module, r"^pagemaker\.[a-z]+$", (name, "L2"))
            defined = ast.parse((PACKAGE / (node.module.split(".")[1] + ".py")).read_text())
            bound = [part.name for part in defined.body if isinstance(part, (ast.FunctionDef, ast.ClassDef))]
            bound += [part.targets[0].id for part in defined.body if isinstance(part, ast.Assign)]
            for alias in node.names:
                self.assertIn(alias.name, bound, (name, "L16"))

    def test_no_ring_of_imports(self):
        left = {path.stem: own_imports(text) for path, text in files()}
        while left:
            done = [name for name in left if not [other for other in left[name] if other in left]]
            self.assertTrue(done, (sorted(left), "L16"))
            for name in done:
                del left[name]

    def test_no_warnings(self):
        with warnings.catch_warnings():
            warnings.simplefilter("error")
            for path, text in files():
                compile(text, str(path), "exec")

    def test_barred_nodes(self):
        for name, node in nodes(*BARRED_NODES):
            self.fail((name, node.lineno, node))

    def test_strings(self):
        for name, node in nodes(ast.Constant):
            if isinstance(node.value, str):
                self.assertNotIn("%", node.value, (name, node.lineno, "L27"))
            self.assertNotIsInstance(node.value, (float, complex), (name, "L7"))

    def test_names(self):
        for name, node in nodes(ast.Name):
            self.assertFalse(node.id.startswith("_"), (name, node.id, "L12"))
            if isinstance(node.ctx, ast.Load) and hasattr(builtins, node.id):
                self.assertIn(node.id, BUILTINS, (name, node.lineno, "L8"))
            if not isinstance(node.ctx, ast.Load):
                self.assertFalse(hasattr(builtins, node.id), (name, node.id, "L15"))
        for name, node in nodes(ast.arg):
            self.assertFalse(node.arg.startswith("_") or hasattr(builtins, node.arg), (name, node.arg, "L15"))
        for name, node in nodes(ast.FunctionDef):
            plain = not node.name.startswith("_") or node.name in DOUBLE_UNDERSCORE
            self.assertTrue(plain and not node.decorator_list, (name, node.name, "L5"))

    def test_methods_and_attributes(self):
        bodies = [node.body for name, node in nodes(ast.ClassDef)]
        methods = {part.name for body in bodies for part in body if isinstance(part, ast.FunctionDef)}
        methods -= DOUBLE_UNDERSCORE
        stored = {node.attr for name, node in nodes(ast.Attribute) if isinstance(node.ctx, ast.Store)}
        read = {node.attr for name, node in nodes(ast.Attribute) if isinstance(node.ctx, ast.Load)}
        self.assertEqual(methods & stored, set(), "L18")
        self.assertEqual((methods | stored) & BUILTIN_NAMES, set(), "L26")
        self.assertEqual(read - methods - stored - METHODS - DOUBLE_UNDERSCORE, set(), "L18, L25")

    def test_names_of_imports_and_classes_are_used_for_nothing_else(self):
        for path, text in files():
            tree = ast.parse(text)
            bound = {alias.name for node in tree.body if isinstance(node, ast.ImportFrom) for alias in node.names}
            bound |= {node.name for node in tree.body if isinstance(node, ast.ClassDef)}
            inner = {node.arg for node in ast.walk(tree) if isinstance(node, ast.arg)}
            inner |= {
                node.id for node in ast.walk(tree) if isinstance(node, ast.Name) and not isinstance(node.ctx, ast.Load)
            }
            self.assertEqual(bound & inner, set(), (path.name, "L15"))

    def test_imports_are_used(self):
        for path, text in files():
            tree = ast.parse(text)
            bound = {alias.name for node in tree.body if isinstance(node, ast.ImportFrom) for alias in node.names}
            self.assertEqual(bound - {node.id for node in ast.walk(tree) if isinstance(node, ast.Name)}, set(), path)

    def test_finally(self):
        """Only what L6 lets stand there; a test is only ever `is None` or `is not None`, as a class has __eq__."""
        simple = (ast.Name, ast.Attribute, ast.Constant, ast.List, ast.Tuple, ast.BinOp, ast.Add, ast.Load, ast.Store)
        barred = (ast.Call, ast.Return, ast.Raise, ast.For, ast.While, ast.Try, ast.Delete, ast.Assert, ast.Subscript,
                  ast.JoinedStr, ast.Dict, ast.Starred, ast.AnnAssign)
        for name, node in nodes(ast.Try):
            for part in [part for row in node.finalbody for part in ast.walk(row)]:
                if isinstance(part, ast.Expr):
                    self.assertIn(part.value.func.attr, ("append", "clear"), (name, part.lineno, "L6"))
                    self.assertIsInstance(part.value.args[0], simple, (name, part.lineno, "L6"))
                elif isinstance(part, barred):
                    self.assertTrue(
                        isinstance(part, ast.Call) and part.func.attr in ("append", "clear"), (name, part.lineno, "L6"))
                elif isinstance(part, ast.Compare):
                    self.assertIsInstance(part.ops[0], (ast.Is, ast.IsNot), (name, part.lineno, "L6"))
                elif isinstance(part, ast.If):
                    self.assertIsInstance(part.test, (ast.Compare, ast.BoolOp), (name, part.lineno, "L6"))

    def test_handlers_name_own_errors(self):
        own = {node.name for name, node in nodes(ast.ClassDef) if name == "errors.py"}
        for name, node in nodes(ast.ExceptHandler):
            caught = node.type.elts if isinstance(node.type, ast.Tuple) else [node.type]
            self.assertEqual([kind.id for kind in caught if kind.id not in own], [], (name, node.lineno, "L19"))

    def test_is(self):
        for name, node in nodes(ast.Compare):
            for sign, other in zip(node.ops, node.comparators):
                if isinstance(sign, (ast.Is, ast.IsNot)):
                    self.assertIn(getattr(other, "value", 0), (None, True, False), (name, node.lineno, "L20"))


if __name__ == "__main__":
    unittest.main()
