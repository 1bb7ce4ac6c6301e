"""The package's files keep to the part of Python that the program is written in."""

import ast
import builtins
import pathlib
import re
import unittest

ROOT = pathlib.Path(__file__).resolve().parent.parent
PACKAGE = ROOT / "outlinebook"

STATEMENTS = (
    ast.Assign, ast.AugAssign, ast.If, ast.While, ast.For, ast.Return, ast.Break, ast.Continue, ast.Pass, ast.Raise,
    ast.Try, ast.Expr, ast.FunctionDef, ast.ClassDef, ast.ImportFrom)
EXPRESSIONS = (
    ast.Constant, ast.List, ast.Tuple, ast.Dict, ast.BinOp, ast.UnaryOp, ast.BoolOp, ast.Compare, ast.IfExp, ast.Call,
    ast.Attribute, ast.Subscript, ast.Slice, ast.ListComp, ast.JoinedStr, ast.FormattedValue, ast.Name, ast.Lambda)
OWN_NAMES = set("""len range enumerate zip min max sum abs sorted reversed int str bool list tuple dict set frozenset
    isinstance ord repr any all divmod Exception ValueError TypeError KeyError IndexError LookupError
    ZeroDivisionError ArithmeticError OverflowError RuntimeError NotImplementedError StopIteration""".split())
METHODS = set("""append clear copy count endswith extend find get index insert isalnum isalpha isdigit islower isspace
    isupper items join keys ljust lower lstrip partition pop remove replace reverse rfind rjust rpartition rsplit
    rstrip setdefault split splitlines startswith strip update upper values zfill bit_length""".split())
WORDS_OUT = re.compile(r"""\b(type|typing|typing_extensions|enum|Enum|IntEnum|StrEnum|Flag|IntFlag|Generic|Protocol|ABC|
    ABCMeta|namedtuple|NamedTuple|TypedDict|TYPE_CHECKING|abstractmethod)\b|dataclass|overload|contextmanager""", re.X)
NAMES_OUT = set("""register mro elements open input version_info with_traceback add_note format format_map attrgetter
    breakpoint builtins compile copyright credits delattr dir eval exec exit gc getattr globals hasattr help id
    importlib license locals methodcaller os quit setattr super type vars sys chr print""".split())
VALUES_OUT = set("""items keys values pop update append clear extend insert remove reverse setdefault sort args
    encode format""".split())


def package_files():
    return sorted(path for path in PACKAGE.rglob("*") if path.is_file() and "__pycache__" not in path.parts)


def bound_names(tree):
    """Each name that the file binds, with the node that binds it."""
    for node in ast.walk(tree):
        if isinstance(node, ast.Name) and isinstance(node.ctx, ast.Store):
            yield node.id, node
        elif isinstance(node, (ast.FunctionDef, ast.ClassDef)):
            yield node.name, node
        elif isinstance(node, ast.arg):
            yield node.arg, node


class LanguageTest(unittest.TestCase):
    def setUp(self):
        self.sources = {path: path.read_text(encoding="utf-8") for path in package_files()}
        self.trees = {path: ast.parse(source) for path, source in self.sources.items()}

    def walked(self):
        for path, tree in self.trees.items():
            for node in ast.walk(tree):
                yield node, f"{path.name}:{getattr(node, 'lineno', 0)}"

    def test_files(self):
        self.assertIn(PACKAGE / "__init__.py", self.sources)
        for path in self.sources:
            self.assertRegex(path.name, r"\A([a-z][a-z0-9_]*|__init__|__main__)\.py\Z")
            self.assertNotIn(path.stem, dir(builtins))

    def test_lines_and_signs(self):
        for path, source in self.sources.items():
            lines = source.split("\n")
            self.assertLessEqual(len(lines), 401, path)
            for line in lines:
                self.assertRegex(line, r"\A[ -~]{0,120}\Z", path)
                self.assertIsNone(WORDS_OUT.search(line), (path, line))

    def test_forms(self):
        for node, where in self.walked():
            if isinstance(node, ast.stmt):
                self.assertIsInstance(node, STATEMENTS, where)
            if isinstance(node, ast.expr):
                self.assertIsInstance(node, EXPRESSIONS, where)
            if isinstance(node, ast.Assign):
                self.assertEqual(len(node.targets), 1, where)
                self.assertIsInstance(node.targets[0], (ast.Name, ast.Attribute, ast.Subscript), where)
            if isinstance(node, (ast.For, ast.While)):
                self.assertEqual(node.orelse, [], where)
            if isinstance(node, ast.ListComp):
                self.assertEqual(len(node.generators), 1, where)
                self.assertLessEqual(len(node.generators[0].ifs), 1, where)
            if isinstance(node, ast.BinOp):
                self.assertNotIsInstance(node.op, (ast.Div, ast.MatMult), where)
            if isinstance(node, ast.Constant):
                self.assertIn(type(node.value), (int, str, bool, type(None)), where)

    def test_functions(self):
        for node, where in self.walked():
            if isinstance(node, (ast.FunctionDef, ast.Lambda)):
                self.assertEqual((node.args.vararg, node.args.kwarg, node.args.kwonlyargs, node.args.posonlyargs),
                                 (None, None, [], []), where)
            if isinstance(node, ast.FunctionDef):
                self.assertLessEqual(node.end_lineno - node.lineno + 1, 40, where)
                self.assertEqual(node.decorator_list, [], where)
                self.assertIsNone(node.returns, where)
                self.assertIsNotNone(ast.get_docstring(node) or node.name == "__init__" or None, where)

    def test_imports_and_tops(self):
        for path, tree in self.trees.items():
            for node in tree.body:
                self.assertIsInstance(
                    node, (ast.Expr, ast.ImportFrom, ast.FunctionDef, ast.ClassDef, ast.Assign), path)
                if isinstance(node, ast.ImportFrom):
                    self.assertEqual(node.level, 0, path)
                    self.check_import(node, path)
                if isinstance(node, ast.Assign):
                    self.assertIsInstance(node.value, (ast.Constant, ast.Tuple, ast.UnaryOp), path)

    def check_import(self, node, path):
        """What is imported is bound by the very file that is named."""
        folder, stem = node.module.split(".")
        self.assertEqual(folder, "outlinebook", path)
        tops = [name for name, binding in bound_names(self.trees[PACKAGE / f"{stem}.py"]) if binding.col_offset == 0]
        for alias in node.names:
            self.assertIn(alias.name, tops, path)
            self.assertIsNone(alias.asname, path)

    def test_names(self):
        for path, tree in self.trees.items():
            imports = [alias.name for node in tree.body if isinstance(node, ast.ImportFrom) for alias in node.names]
            classes = [node.name for node in tree.body if isinstance(node, ast.ClassDef)]
            for name, node in bound_names(tree):
                where = (path.name, node.lineno, name)
                self.assertTrue(name == "__init__" or re.fullmatch("[A-Za-z][A-Za-z0-9_]*", name), where)
                self.assertNotIn(name, dir(builtins), where)
                self.assertNotIn(name, imports, where)
                self.assertNotIn(name, NAMES_OUT, where)
                if not isinstance(node, ast.ClassDef):
                    self.assertNotIn(name, classes, where)

    def test_names_of_python(self):
        for node, where in self.walked():
            if isinstance(node, ast.Name) and isinstance(node.ctx, ast.Load) and node.id in dir(builtins):
                self.assertIn(node.id, OWN_NAMES, where)
            if isinstance(node, ast.Attribute):
                self.assertNotIn(node.attr, NAMES_OUT, where)
                if isinstance(node.ctx, ast.Store):
                    self.assertNotIn(node.attr, VALUES_OUT, where)

    def test_methods_of_python(self):
        own = {node.name for node, where in self.walked() if isinstance(node, ast.FunctionDef)}
        for node, where in self.walked():
            if isinstance(node, ast.Call) and isinstance(node.func, ast.Attribute):
                self.assertIn(node.func.attr, METHODS | own, where)

    def test_no_circle_of_imports(self):
        draws = {}
        for path, tree in self.trees.items():
            modules = [node.module for node in tree.body if isinstance(node, ast.ImportFrom)]
            draws[path.stem] = {module.split(".")[1] for module in modules}
        while draws:
            free = [stem for stem, drawn in draws.items() if not drawn & set(draws)]
            self.assertTrue(free, f"these draw from one another: {sorted(draws)}")
            draws = {stem: drawn for stem, drawn in draws.items() if stem not in free}


if __name__ == "__main__":
    unittest.main()
