"""Holds the package's files to those rules of LANGUAGE.md that can be seen in the code."""

import ast
import builtins
import io
import pathlib
import re
import tokenize
import unittest

PACKAGE = pathlib.Path(__file__).resolve().parent.parent / "lettercell"
FILES = sorted(PACKAGE.rglob("*.py"))

STATEMENTS = (ast.Assign, ast.AugAssign, ast.If, ast.While, ast.For, ast.Return, ast.Break, ast.Continue, ast.Pass,
              ast.Raise, ast.Try, ast.Expr, ast.FunctionDef, ast.ClassDef, ast.ImportFrom)
EXPRESSIONS = (ast.Constant, ast.List, ast.Tuple, ast.Dict, ast.Set, ast.BinOp, ast.UnaryOp, ast.BoolOp, ast.Compare,
               ast.IfExp, ast.Call, ast.Attribute, ast.Subscript, ast.Slice, ast.ListComp, ast.JoinedStr,
               ast.FormattedValue, ast.Lambda, ast.Name)
ERRORS = """Exception ValueError TypeError KeyError IndexError LookupError ZeroDivisionError ArithmeticError
OverflowError RuntimeError NotImplementedError AttributeError StopIteration""".split()
CALLABLE = """len range enumerate zip min max sum abs sorted reversed int str bool list tuple dict set frozenset
isinstance ord repr any all divmod""".split()
OWN_METHODS = "__init__ __eq__ __repr__ __str__ __len__".split()
OUT_ANYWHERE = """type typing typing_extensions enum Enum IntEnum StrEnum Flag IntFlag Generic Protocol ABC ABCMeta
namedtuple NamedTuple TypedDict TYPE_CHECKING abstractmethod""".split()
OUT_AS_NAMES = """register mro elements open input version_info with_traceback add_note format format_map""".split()
METHODS = """append clear copy count endswith extend find get index insert isalnum isalpha isdigit islower isspace
isupper items join keys ljust lower lstrip partition pop remove replace reverse rfind rjust rpartition rsplit rstrip
setdefault split splitlines startswith strip update upper values zfill bit_length""".split()
VALUES = "count index title find get join lower upper split strip copy add".split()
WALKED = "zip enumerate reversed range".split()
WALKED_BY = "list tuple dict sorted sum any all enumerate zip min max".split()
KEYWORDS = {"sorted": ("key", "reverse"), "min": ("key", "default"), "max": ("key", "default"), "sum": ("start",),
            "enumerate": ("start",), "zip": ("strict",)}
TESTED = "int str bool list tuple dict".split()
PYTHONS_METHODS = set(dir(str) + dir(int) + dir(list) + dir(dict) + dir(set) + dir(bytes) + dir(tuple))


def nodes_of(kind):
    for path in FILES:
        for node in ast.walk(ast.parse(path.read_text())):
            if isinstance(node, kind):
                yield path.name, node


def nodes_with_parents(kind):
    for path in FILES:
        for parent in ast.walk(ast.parse(path.read_text())):
            for node in ast.iter_child_nodes(parent):
                if isinstance(node, kind):
                    yield path.name, node, parent


def is_call_of(node, names):
    return isinstance(node, ast.Call) and isinstance(node.func, ast.Name) and node.func.id in names


def is_walk(node):
    if isinstance(node, ast.Call) and isinstance(node.func, ast.Attribute):
        return node.func.attr in ("items", "keys", "values")
    return is_call_of(node, WALKED)


def classes_of_package():
    return [node.name for name, node in nodes_of(ast.ClassDef)]


def drawn_from():
    """Of each file, the files that it draws from."""
    drawn = {path.stem: [] for path in FILES}
    for name, node in nodes_of(ast.ImportFrom):
        if node.module != "__future__":
            drawn[name[:-3]].append(node.module.split(".")[1])
    return drawn


def names_in_package():
    """Every name that is bound or used in the package, with its file and line."""
    for name, node in nodes_of(ast.AST):
        for field in ("id", "attr", "arg", "name"):
            word = getattr(node, field, None)
            if isinstance(word, str) and not isinstance(node, ast.alias):
                yield name, getattr(node, "lineno", 0), word


class TestLanguage(unittest.TestCase):
    def hold(self, good, rule, name, node):
        line = node if isinstance(node, int) else getattr(node, "lineno", 0)
        self.assertTrue(good, f"{rule} at {name}, line {line}")

    def test_files(self):
        self.assertIn("__init__.py", [path.name for path in FILES])
        for path in PACKAGE.rglob("*"):
            if "__pycache__" not in path.parts:
                self.hold(re.fullmatch(r"[a-z0-9_]+\.py", path.name), "L1, L14", path.name, 0)

    def test_signs_and_sizes(self):
        for path in FILES:
            text = path.read_text()
            rows = text.split("\n")
            self.hold(len(rows) <= 401, "L10", path.name, 0)
            for number, row in enumerate(rows, start=1):
                self.hold(len(row) <= 120, "L10", path.name, number)
                self.hold(all(" " <= sign <= "~" for sign in row), "L14", path.name, number)
                words = re.findall(r"[A-Za-z0-9_]+", row)
                self.hold(not [word for word in words if word in OUT_ANYWHERE], "L17", path.name, number)
                self.hold(not re.search("dataclass|overload|contextmanager", row), "L17", path.name, number)

    def test_functions(self):
        for name, node in nodes_of(ast.FunctionDef):
            self.hold(node.end_lineno - node.lineno < 40, "L10", name, node)
            plain = not (node.args.vararg or node.args.kwarg or node.args.kwonlyargs or node.args.posonlyargs)
            self.hold(plain and not node.decorator_list, "L4", name, node)

    def test_classes(self):
        methods = {}
        for name, node in nodes_of(ast.ClassDef):
            self.hold(len(node.bases) <= 1 and not node.keywords and not node.decorator_list, "L5", name, node)
            own = [part.name for part in node.body if isinstance(part, ast.FunctionDef)]
            self.hold(len(own) == len(set(own)), "L18", name, node)
            for part in node.body:
                self.hold(isinstance(part, (ast.FunctionDef, ast.Pass)), "L5", name, part)
            methods.update({method: True for method in own})
        for name, node in nodes_of(ast.Attribute):
            if isinstance(node.ctx, ast.Store):
                self.hold(node.attr not in methods, "L18", name, node)
                self.hold(node.attr not in PYTHONS_METHODS or node.attr in VALUES, "L26", name, node)
        for method in methods:
            good = method not in PYTHONS_METHODS or method in METHODS + OWN_METHODS + ["add", "discard"]
            self.hold(good, "L26", method, 0)

    def test_methods(self):
        own = [node.name for name, node in nodes_of(ast.FunctionDef)]
        for name, node in nodes_of(ast.Call):
            if isinstance(node.func, ast.Attribute):
                good = node.func.attr in METHODS or node.func.attr in own or node.func.attr in OWN_METHODS
                self.hold(good, "L25", name, node)

    def test_imports(self):
        for name, node in nodes_of((ast.Import, ast.ImportFrom)):
            if name == "__main__.py" and isinstance(node, ast.Import):
                continue
            good = isinstance(node, ast.ImportFrom) and node.level == 0
            self.hold(good and re.fullmatch(r"lettercell\.[a-z]+|__future__", node.module), "L2, L16", name, node)
            self.hold(all(alias.name != "*" for alias in node.names), "L2", name, node)

    def test_statements_and_expressions(self):
        for name, node in nodes_of(ast.stmt):
            self.hold(isinstance(node, STATEMENTS) or name == "__main__.py", "L6", name, node)
            if isinstance(node, (ast.For, ast.While)):
                self.hold(not node.orelse, "L6", name, node)
            if isinstance(node, ast.Try):
                self.hold(not node.finalbody and all(part.type for part in node.handlers), "L6, L19", name, node)
            if isinstance(node, ast.Assign):
                self.hold(len(node.targets) == 1, "L6", name, node)
        for name, node in nodes_of(ast.expr):
            self.hold(isinstance(node, EXPRESSIONS), "L7", name, node)

    def test_values(self):
        for name, node in nodes_of(ast.Constant):
            self.hold(node.value is None or isinstance(node.value, (int, str)), "L7", name, node)
            self.hold(not isinstance(node.value, str) or "%" not in node.value, "L27", name, node)
        for name, node in nodes_of((ast.Div, ast.MatMult)):
            self.hold(False, "L7", name, node)
        for name, node in nodes_of(ast.ListComp):
            self.hold(len(node.generators) == 1 and len(node.generators[0].ifs) <= 1, "L7", name, node)
        for name, node in nodes_of(ast.Compare):
            for sign, other in zip(node.ops, node.comparators):
                if isinstance(sign, (ast.Is, ast.IsNot)):
                    good = isinstance(other, ast.Constant) and other.value in (None, True, False)
                    self.hold(good, "L20", name, node)

    def test_names(self):
        for name, line, word in names_in_package():
            self.hold(not word.startswith("_") or word in OWN_METHODS, "L8, L12", name, line)
            self.hold(word not in OUT_AS_NAMES, "L8, L17", name, line)
        for name, node in nodes_of((ast.Name, ast.arg)):
            word = node.id if isinstance(node, ast.Name) else node.arg
            if word in dir(builtins):
                good = isinstance(node, ast.Name) and isinstance(node.ctx, ast.Load)
                self.hold(good and word in CALLABLE + ERRORS, "L8, L15", name, node)

    def test_texts_have_plain_escapes(self):
        for path in FILES:
            for token in tokenize.generate_tokens(io.StringIO(path.read_text()).readline):
                if token.type == tokenize.STRING:
                    good = not re.search(r"\\[^nt\\'\"]", token.string.replace("\\\\", ""))
                    self.hold(good, "L27", path.name, token.start[0])

    def test_the_top_of_a_file(self):
        for path in FILES:
            body = ast.parse(path.read_text()).body
            self.hold(isinstance(body[0], ast.Expr), "L3", path.name, 1)
            bound = []
            for node in body[1:]:
                self.hold(isinstance(node, (ast.ImportFrom, ast.FunctionDef, ast.ClassDef, ast.Assign)), "L3", path.name, node)
                if isinstance(node, ast.ImportFrom):
                    bound.extend(alias.asname or alias.name for alias in node.names)
                elif isinstance(node, ast.Assign):
                    bound.append(node.targets[0].id)
                    for part in ast.walk(node.value):
                        plain = isinstance(part, (ast.Constant, ast.Name, ast.List, ast.Tuple, ast.Dict, ast.Load))
                        self.hold(plain, "L3", path.name, node)
                        inner = isinstance(part, (ast.List, ast.Dict)) and part is not node.value
                        self.hold(not inner, "L15", path.name, node)
                else:
                    bound.append(node.name)
            self.assertEqual(len(bound), len(set(bound)), f"L15 at {path.name}")

    def test_locals_are_not_called_like_classes_and_imports(self):
        for path in FILES:
            tree = ast.parse(path.read_text())
            taken = [node.name for node in tree.body if isinstance(node, ast.ClassDef)]
            taken.extend(alias.name for node in tree.body if isinstance(node, ast.ImportFrom) for alias in node.names)
            for node in ast.walk(tree):
                if isinstance(node, ast.arg):
                    self.hold(node.arg not in taken, "L15", path.name, node)
                if isinstance(node, ast.Name) and isinstance(node.ctx, ast.Store):
                    self.hold(node.id not in taken, "L15", path.name, node)

    def test_names_of_the_top_are_only_read(self):
        for path in FILES:
            tree = ast.parse(path.read_text())
            kept = [node.targets[0].id for node in tree.body if isinstance(node, ast.Assign)
                    and isinstance(node.value, (ast.List, ast.Dict))]
            for parent in ast.walk(tree):
                for node in ast.iter_child_nodes(parent):
                    if isinstance(node, ast.Name) and node.id in kept and isinstance(node.ctx, ast.Load):
                        read = isinstance(parent, (ast.Subscript, ast.Compare, ast.For, ast.comprehension))
                        read = read or isinstance(parent, ast.Attribute) and parent.attr in ("get", "items", "keys")
                        read = read or is_call_of(parent, ["len", "list", "dict", "sorted"])
                        self.hold(read, "L15", path.name, node)

    def test_no_two_files_draw_from_one_another(self):
        drawn = drawn_from()
        for start in drawn:
            reached, left = [], list(drawn[start])
            while left:
                name = left.pop()
                if name not in reached:
                    reached.append(name)
                    left.extend(drawn[name])
            self.assertNotIn(start, reached, "L16")

    def test_names_are_drawn_from_the_file_that_defines_them(self):
        for name, node in nodes_of(ast.ImportFrom):
            tree = ast.parse((PACKAGE / (node.module.split(".")[1] + ".py")).read_text())
            defined = [part.name for part in tree.body if isinstance(part, (ast.FunctionDef, ast.ClassDef))]
            defined.extend(part.targets[0].id for part in tree.body if isinstance(part, ast.Assign))
            for alias in node.names:
                self.hold(alias.name in defined and alias.asname is None, "L16", name, node)

    def test_imports_are_used(self):
        for path in FILES:
            tree = ast.parse(path.read_text())
            used = [node.id for node in ast.walk(tree) if isinstance(node, ast.Name)]
            for node in tree.body:
                if isinstance(node, ast.ImportFrom):
                    for alias in node.names:
                        self.assertIn(alias.name, used, path.name)

    def test_classes_as_they_stand(self):
        classes = classes_of_package()
        for name, node, parent in nodes_with_parents(ast.Name):
            if node.id in classes:
                good = isinstance(parent, (ast.ClassDef, ast.ExceptHandler, ast.Raise))
                good = good or isinstance(parent, ast.Call) and parent.func is node
                good = good or is_call_of(parent, ["isinstance"])
                good = good or isinstance(parent, ast.Attribute) and parent.attr == "__init__"
                self.hold(good, "L18", name, node)

    def test_errors_are_taken_by_their_own_names(self):
        own = [node.name for name, node in nodes_of(ast.ClassDef) if name == "errors.py"]
        for name, node in nodes_of(ast.ExceptHandler):
            self.hold(isinstance(node.type, ast.Name) and node.type.id in own + ["KeyError"], "L19", name, node)
        for name, node in nodes_of(ast.Raise):
            self.hold(is_call_of(node.exc, own), "L19", name, node)
            cause = node.cause
            self.hold(cause is None or isinstance(cause, ast.Name) or cause.value is None, "L19", name, node)

    def test_pythons_own_as_they_are_called(self):
        for name, node, parent in nodes_with_parents(ast.Name):
            if node.id in CALLABLE:
                called = isinstance(parent, ast.Call) and parent.func is node
                kind = is_call_of(parent, ["isinstance"]) or isinstance(parent, (ast.keyword, ast.Tuple))
                self.hold(called or kind, "L22", name, node)
        for name, node in nodes_of(ast.Call):
            if isinstance(node.func, ast.Name) and node.func.id in CALLABLE:
                for word in node.keywords:
                    self.hold(word.arg in KEYWORDS.get(node.func.id, ()), "L22", name, node)
            if isinstance(node.func, ast.Attribute) and node.func.attr in METHODS:
                self.hold(not node.keywords, "L22", name, node)
            if is_call_of(node, ["isinstance"]):
                kinds = node.args[1].elts if isinstance(node.args[1], ast.Tuple) else [node.args[1]]
                self.hold(all(kind.id in TESTED + classes_of_package() for kind in kinds), "L22", name, node)

    def test_walked_at_once(self):
        for name, node, parent in nodes_with_parents(ast.expr):
            if is_walk(node):
                good = isinstance(parent, (ast.For, ast.comprehension)) and parent.iter is node
                good = good or is_call_of(parent, WALKED_BY)
                good = good or isinstance(parent, ast.Call) and isinstance(parent.func, ast.Attribute) \
                    and parent.func.attr == "join"
                self.hold(good, "L23", name, node)

    def test_what_a_loop_walks_is_not_changed_in_it(self):
        changes = "append clear extend insert pop remove reverse setdefault update add discard".split()
        for name, loop in nodes_of(ast.For):
            walked = loop.iter
            if is_walk(walked):
                walked = walked.func.value if isinstance(walked.func, ast.Attribute) else walked.args[0]
            if not isinstance(walked, (ast.Name, ast.Attribute)):
                continue
            for node in [part for statement in loop.body for part in ast.walk(statement)]:
                if isinstance(node, ast.Call) and isinstance(node.func, ast.Attribute) and node.func.attr in changes:
                    self.hold(ast.dump(node.func.value) != ast.dump(walked), "L23", name, node)
                if isinstance(node, ast.Subscript) and isinstance(node.ctx, ast.Store):
                    self.hold(ast.dump(node.value) != ast.dump(walked), "L23", name, node)

    def test_sets(self):
        for name, node, parent in nodes_with_parents((ast.Call, ast.Set)):
            if isinstance(node, ast.Set) or is_call_of(node, ["set", "frozenset"]):
                good = isinstance(parent, ast.Compare) or is_call_of(parent, ["sorted", "len"])
                self.hold(good and not isinstance(node, ast.Set), "L13, L24", name, node)

    def test_methods_are_called_where_they_stand(self):
        own = [part.name for name, node in nodes_of(ast.ClassDef) for part in node.body
               if isinstance(part, ast.FunctionDef)]
        stored = [node.attr for name, node in nodes_of(ast.Attribute) if isinstance(node.ctx, ast.Store)]
        for name, node, parent in nodes_with_parents(ast.Attribute):
            if isinstance(node.ctx, ast.Load) and not (isinstance(parent, ast.Call) and parent.func is node):
                self.hold(node.attr in stored and node.attr not in own, "L25", name, node)

    def test_no_annotations_and_no_docstrings_within(self):
        for name, node in nodes_of(ast.FunctionDef):
            self.hold(node.returns is None and not [part for part in node.args.args if part.annotation], "L21", name, node)
        for name, node in nodes_of((ast.FunctionDef, ast.ClassDef)):
            self.hold(ast.get_docstring(node) is None, "L5, L6", name, node)
        for name, node, parent in nodes_with_parents(ast.Expr):
            self.hold(isinstance(node.value, ast.Call) or isinstance(parent, ast.Module), "L6", name, node)

    def test_powers_and_shown_values(self):
        for name, node in nodes_of(ast.BinOp):
            if isinstance(node.op, ast.Pow):
                good = isinstance(node.right, ast.Constant) and 0 <= node.right.value <= 64
                self.hold(good, "L27", name, node)
        for name, node in nodes_of(ast.FormattedValue):
            self.hold(isinstance(node.value, ast.Name) and node.format_spec is None, "L7", name, node)

    def test_one_target(self):
        for name, node in nodes_of((ast.Assign, ast.AugAssign)):
            target = node.targets[0] if isinstance(node, ast.Assign) else node.target
            self.hold(isinstance(target, (ast.Name, ast.Attribute, ast.Subscript)), "L6", name, node)
