"""Holds the package's files to those rules of LANGUAGE.md that can be seen in the code."""

import ast
import builtins
import io
import pathlib
import re
import tokenize
import unittest

PACKAGE = pathlib.Path(__file__).resolve().parent.parent / "lettercell"
FILES = sorted(PACKAGE.rglob("*.py"))

STATEMENTS = (ast.Assign, ast.AugAssign, ast.If, ast.While, ast.For, ast.Return, ast.Break, ast.Continue, ast.Pass,
              ast.Raise, ast.Try, ast.Expr, ast.FunctionDef, ast.ClassDef, ast.ImportFrom)
EXPRESSIONS = (ast.Constant, ast.List, ast.Tuple, ast.Dict, ast.Set, ast.BinOp, ast.UnaryOp, ast.BoolOp, ast.Compare,
               ast.IfExp, ast.Call, ast.Attribute, ast.Subscript, ast.Slice, ast.ListComp, ast.JoinedStr,
               ast.FormattedValue, ast.Lambda, ast.Name)
ERRORS = """Exception ValueError TypeError KeyError IndexError LookupError ZeroDivisionError ArithmeticError
OverflowError RuntimeError NotImplementedError AttributeError StopIteration""".split()
CALLABLE = """len range enumerate zip min max sum abs sorted reversed int str bool list tuple dict set frozenset
isinstance ord repr any all divmod""".split()
OWN_METHODS = "__init__ __eq__ __repr__ __str__ __len__".split()
OUT_ANYWHERE = """type typing typing_extensions enum Enum IntEnum StrEnum Flag IntFlag Generic Protocol ABC ABCMeta
namedtuple NamedTuple TypedDict TYPE_CHECKING abstractmethod""".split()
OUT_AS_NAMES = """register mro elements open input version_info with_traceback add_note format format_map""".split()
METHODS = """append clear copy count endswith extend find get index insert isalnum isalpha isdigit islower isspace
isupper items join keys ljust lower lstrip partition pop remove replace reverse rfind rjust rpartition rsplit rstrip
setdefault split splitlines startswith strip update upper values zfill bit_length""".split()
VALUES = "count index title find get join lower upper split strip copy add".split()
PYTHONS_METHODS = set(dir(str) + dir(int) + dir(list) + dir(dict) + dir(set) + dir(bytes) + dir(tuple))


def nodes_of(kind):
    for path in FILES:
        for node in ast.walk(ast.parse(path.read_text())):
            if isinstance(node, kind):
                yield path.name, node


def names_in_package():
    """Every name that is bound or used in the package, with its file and line."""
    for name, node in nodes_of(ast.AST):
        for field in ("id", "attr", "arg", "name"):
            word = getattr(node, field, None)
            if isinstance(word, str) and not isinstance(node, ast.alias):
                yield name, getattr(node, "lineno", 0), word


class TestLanguage(unittest.TestCase):
    def hold(self, good, rule, name, node):
        line = node if isinstance(node, int) else getattr(node, "lineno", 0)
        self.assertTrue(good, f"{rule} at {name}, line {line}")

    def test_files(self):
        self.assertIn("__init__.py", [path.name for path in FILES])
        for path in PACKAGE.rglob("*"):
            if "__pycache__" not in path.parts:
                self.hold(re.fullmatch(r"[a-z0-9_]+\.py", path.name), "L1, L14", path.name, 0)

    def test_signs_and_sizes(self):
        for path in FILES:
            text = path.read_text()
            rows = text.split("\n")
            self.hold(len(rows) <= 401, "L10", path.name, 0)
            for number, row in enumerate(rows, start=1):
                self.hold(len(row) <= 120, "L10", path.name, number)
                self.hold(all(" " <= sign <= "~" for sign in row), "L14", path.name, number)
                words = re.findall(r"[A-Za-z0-9_]+", row)
                self.hold(not [word for word in words if word in OUT_ANYWHERE], "L17", path.name, number)
                self.hold(not re.search("dataclass|overload|contextmanager", row), "L17", path.name, number)

    def test_functions(self):
        for name, node in nodes_of(ast.FunctionDef):
            self.hold(node.end_lineno - node.lineno < 40, "L10", name, node)
            plain = not (node.args.vararg or node.args.kwarg or node.args.kwonlyargs or node.args.posonlyargs)
            self.hold(plain and not node.decorator_list, "L4", name, node)

    def test_classes(self):
        methods = {}
        for name, node in nodes_of(ast.ClassDef):
            self.hold(len(node.bases) <= 1 and not node.keywords and not node.decorator_list, "L5", name, node)
            own = [part.name for part in node.body if isinstance(part, ast.FunctionDef)]
            self.hold(len(own) == len(set(own)), "L18", name, node)
            for part in node.body:
                self.hold(isinstance(part, (ast.FunctionDef, ast.Pass)), "L5", name, part)
            methods.update({method: True for method in own})
        for name, node in nodes_of(ast.Attribute):
            if isinstance(node.ctx, ast.Store):
                self.hold(node.attr not in methods, "L18", name, node)
                self.hold(node.attr not in PYTHONS_METHODS or node.attr in VALUES, "L26", name, node)
        for method in methods:
            good = method not in PYTHONS_METHODS or method in METHODS + OWN_METHODS + ["add", "discard"]
            self.hold(good, "L26", method, 0)

    def test_methods(self):
        own = [node.name for name, node in nodes_of(ast.FunctionDef)]
        for name, node in nodes_of(ast.Call):
            if isinstance(node.func, ast.Attribute):
                good = node.func.attr in METHODS or node.func.attr in own or node.func.attr in OWN_METHODS
                self.hold(good, "L25", name, node)

    def test_imports(self):
        for name, node in nodes_of((ast.Import, ast.ImportFrom)):
            if name == "__main__.py" and isinstance(node, ast.Import):
                continue
            good = isinstance(node, ast.ImportFrom) and node.level == 0
            self.hold(good and re.fullmatch(r"lettercell\.[a-z]+|__future__", node.module), "L2, L16", name, node)
            self.hold(all(alias.name != "*" for alias in node.names), "L2", name, node)

    def test_statements_and_expressions(self):
        for name, node in nodes_of(ast.stmt):
            self.hold(isinstance(node, STATEMENTS) or name == "__main__.py", "L6", name, node)
            if isinstance(node, (ast.For, ast.While)):
                self.hold(not node.orelse, "L6", name, node)
            if isinstance(node, ast.Try):
                self.hold(not node.finalbody and all(part.type for part in node.handlers), "L6, L19", name, node)
            if isinstance(node, ast.Assign):
                self.hold(len(node.targets) == 1, "L6", name, node)
        for name, node in nodes_of(ast.expr):
            self.hold(isinstance(node, EXPRESSIONS), "L7", name, node)

    def test_values(self):
        for name, node in nodes_of(ast.Constant):
            self.hold(node.value is None or isinstance(node.value, (int, str)), "L7", name, node)
            self.hold(not isinstance(node.value, str) or "%" not in node.value, "L27", name, node)
        for name, node in nodes_of((ast.Div, ast.MatMult)):
            self.hold(False, "L7", name, node)
        for name, node in nodes_of(ast.ListComp):
            self.hold(len(node.generators) == 1 and len(node.generators[0].ifs) <= 1, "L7", name, node)
        for name, node in nodes_of(ast.Compare):
            for sign, other in zip(node.ops, node.comparators):
                if isinstance(sign, (ast.Is, ast.IsNot)):
                    good = isinstance(other, ast.Constant) and other.value in (None, True, False)
                    self.hold(good, "L20", name, node)

    def test_names(self):
        for name, line, word in names_in_package():
            self.hold(not word.startswith("_") or word in OWN_METHODS, "L8, L12", name, line)
            self.hold(word not in OUT_AS_NAMES, "L8, L17", name, line)
        for name, node in nodes_of((ast.Name, ast.arg)):
            word = node.id if isinstance(node, ast.Name) else node.arg
            if word in dir(builtins):
                good = isinstance(node, ast.Name) and isinstance(node.ctx, ast.Load)
                self.hold(good and word in CALLABLE + ERRORS, "L8, L15", name, node)

    def test_texts_have_plain_escapes(self):
        for path in FILES:
            for token in tokenize.generate_tokens(io.StringIO(path.read_text()).readline):
                if token.type == tokenize.STRING:
                    good = not re.search(r"\\[^nt\\'\"]", token.string.replace("\\\\", ""))
                    self.hold(good, "L27", path.name, token.start[0])
