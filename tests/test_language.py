"""The package's files keep to the small part of Python that was chosen for them."""

import ast
import builtins
import pathlib
import re
import unittest

PACKAGE = pathlib.Path(__file__).resolve().parent.parent / "setchains"

NODES = set(
    """Module Expr Constant ImportFrom alias FunctionDef arguments arg Lambda ClassDef Assign AugAssign Name Load Store
    If While For Return Break Continue Pass Raise Try ExceptHandler Call keyword Attribute Subscript Slice List Tuple
    Dict ListComp comprehension JoinedStr FormattedValue IfExp BoolOp And Or UnaryOp Not USub Invert BinOp Add Sub Mult
    FloorDiv Mod Pow BitAnd BitOr BitXor LShift RShift Compare Eq NotEq Lt LtE Gt GtE Is IsNot In NotIn""".split()
)
BUILTINS = set(
    """len range enumerate zip min max sum abs sorted reversed int str bool list tuple dict set frozenset isinstance ord
    repr any all divmod Exception ValueError TypeError KeyError IndexError LookupError ZeroDivisionError ArithmeticError
    OverflowError RuntimeError NotImplementedError AttributeError StopIteration""".split()
)
METHODS = set(
    """append clear copy count endswith extend find get index insert isalnum isalpha isdigit islower isspace isupper
    items join keys ljust lower lstrip partition pop remove replace reverse rfind rjust rpartition rsplit rstrip
    setdefault split splitlines startswith strip update upper values zfill bit_length""".split()
)
WORDS = set(
    """type typing typing_extensions enum Enum IntEnum StrEnum Flag IntFlag Generic Protocol ABC ABCMeta namedtuple
    NamedTuple TypedDict TYPE_CHECKING abstractmethod""".split()
)


def sources():
    return [(path.name, path.read_text(encoding="utf-8")) for path in sorted(PACKAGE.glob("*.py"))]


def nodes():
    return [(name, node) for name, text in sources() for node in ast.walk(ast.parse(text))]


class Language(unittest.TestCase):
    def test_files(self):
        names = [path.name for path in PACKAGE.iterdir() if path.name != "__pycache__"]
        self.assertIn("__init__.py", names)
        for name in names:
            self.assertRegex(name, r"^([a-z][a-z0-9_]*|__init__)\.py$")

    def test_signs_and_sizes(self):
        for name, text in sources():
            self.assertRegex(text, r"\A[ -~\n]*\Z", name)
            rows = text.split("\n")
            self.assertLessEqual(len(rows), 400, name)
            self.assertLessEqual(max(len(row) for row in rows), 120, name)

    def test_words(self):
        for name, text in sources():
            self.assertEqual(set(re.findall(r"\w+", text)) & WORDS, set(), name)
            self.assertNotRegex(text, "dataclass|overload|contextmanager", name)

    def test_statements_and_expressions(self):
        for name, node in nodes():
            self.assertIn(node.__class__.__name__, NODES, name)

    def test_functions(self):
        for name, node in nodes():
            if isinstance(node, ast.FunctionDef):
                self.assertLessEqual(node.end_lineno - node.lineno + 1, 40, (name, node.name))
                self.assertEqual(node.decorator_list, [])
                self.assertEqual((node.args.vararg, node.args.kwarg, node.args.kwonlyargs), (None, None, []))

    def test_imports(self):
        for name, node in nodes():
            if isinstance(node, ast.ImportFrom):
                self.assertEqual(node.level, 0, name)
                self.assertTrue(node.module.startswith("setchains."), name)
                self.assertNotIn("*", [one.name for one in node.names], name)

    def test_names(self):
        for name, node in nodes():
            if isinstance(node, ast.Name):
                self.assertFalse(node.id.startswith("_"), (name, node.id))
                if isinstance(node.ctx, ast.Load):
                    self.assertTrue(node.id in BUILTINS or not hasattr(builtins, node.id), (name, node.id))
                else:
                    self.assertFalse(hasattr(builtins, node.id), (name, node.id))
            if isinstance(node, ast.arg):
                self.assertFalse(hasattr(builtins, node.arg) or node.arg.startswith("_"), (name, node.arg))

    def test_nothing_is_called_like_an_import_of_its_file(self):
        for name, text in sources():
            tree = ast.parse(text)
            drawn = {one.name for node in tree.body if isinstance(node, ast.ImportFrom) for one in node.names}
            for node in ast.walk(tree):
                if isinstance(node, ast.Name) and isinstance(node.ctx, ast.Store):
                    self.assertNotIn(node.id, drawn, name)
                if isinstance(node, ast.arg):
                    self.assertNotIn(node.arg, drawn, name)

    def test_no_two_files_draw_from_one_another(self):
        drawn = {name: set() for name, text in sources()}
        for name, node in nodes():
            if isinstance(node, ast.ImportFrom):
                drawn[name].add(node.module.partition(".")[2] + ".py")
        # Files that draw from no file that is left are taken away, until none is left.
        while drawn:
            settled = [name for name in drawn if not drawn[name] & set(drawn)]
            self.assertNotEqual(settled, [])
            drawn = {name: drawn[name] for name in drawn if name not in settled}

    def test_powers(self):
        for name, node in nodes():
            if isinstance(node, ast.BinOp) and isinstance(node.op, ast.Pow):
                self.assertIsInstance(node.right, ast.Constant, name)

    def test_methods(self):
        for name, node in nodes():
            if isinstance(node, ast.Attribute):
                self.assertIn(node.attr, METHODS, name)

    def test_values(self):
        for name, node in nodes():
            if isinstance(node, ast.Constant):
                self.assertIn(node.value.__class__, (int, str, bool, None.__class__), name)
                self.assertNotIn("%", str(node.value), name)


if __name__ == "__main__":
    unittest.main()
