"""The package keeps to ../shared/LANGUAGE.md, as far as its rows can be seen in the code alone."""

import ast
import builtins
import pathlib
import re
import unittest

ROOT = pathlib.Path(__file__).resolve().parent.parent
PACKAGE = ROOT / "hall"
FILES = sorted(PACKAGE.rglob("*.py"))
TREES = {path: ast.parse(path.read_text(encoding="utf-8")) for path in FILES}

STATEMENTS = (ast.FunctionDef, ast.ClassDef, ast.Assign, ast.AugAssign, ast.If, ast.While, ast.For, ast.Return,
              ast.Break, ast.Continue, ast.Pass, ast.Raise, ast.Try, ast.Expr, ast.ImportFrom)
EXPRESSIONS = (ast.Constant, ast.Name, ast.List, ast.Tuple, ast.Dict, ast.Set, ast.BinOp, ast.UnaryOp, ast.BoolOp,
               ast.Compare, ast.IfExp, ast.Call, ast.Attribute, ast.Subscript, ast.Slice, ast.ListComp,
               ast.JoinedStr, ast.FormattedValue, ast.Lambda)
OWN_OF_PYTHON = set("""len range enumerate zip min max sum abs sorted reversed int str bool list tuple dict set
    frozenset isinstance ord repr any all divmod Exception ValueError TypeError KeyError IndexError LookupError
    ZeroDivisionError ArithmeticError OverflowError RuntimeError NotImplementedError StopIteration""".split())
METHODS = set("""append clear copy count endswith extend find get index insert isalnum isalpha isdigit islower isspace
    isupper items join keys ljust lower lstrip partition pop remove replace reverse rfind rjust rpartition rsplit
    rstrip setdefault split splitlines startswith strip update upper values zfill bit_length""".split())
DOUBLE = {"__init__", "__eq__", "__repr__", "__str__", "__len__"}
UNUSED = set("""register mro elements open input version_info with_traceback add_note format format_map attrgetter
    breakpoint builtins compile copyright credits delattr dir eval exec exit gc getattr globals hasattr help id
    importlib license locals methodcaller os quit setattr super vars sys chr print""".split())
WORDS = re.compile(r"\b(type|typing|typing_extensions|enum|Enum|IntEnum|StrEnum|Flag|IntFlag|Generic|Protocol|ABC|"
                   r"ABCMeta|namedtuple|NamedTuple|TypedDict|TYPE_CHECKING|abstractmethod)\b"
                   r"|dataclass|overload|contextmanager")
WALKED = {"zip", "enumerate", "reversed", "range", "items", "keys", "values"}
WALKERS = {"list", "tuple", "dict", "sorted", "sum", "any", "all", "enumerate", "zip"}
KEYWORDS = {"sorted": {"key", "reverse"}, "min": {"key", "default"}, "max": {"key", "default"}, "sum": {"start"},
            "enumerate": {"start"}, "zip": {"strict"}}
FOLDER_NAMES = {"test", "tests", "testing", "site", "conftest", "sitecustomize", "usercustomize"}


def is_docstring(node):
    return isinstance(node, ast.Expr) and isinstance(node.value, ast.Constant) and isinstance(node.value.value, str)


def defined(tree):
    names = []
    for node in tree.body:
        if isinstance(node, (ast.FunctionDef, ast.ClassDef)):
            names.append(node.name)
        elif isinstance(node, ast.Assign):
            names.append(node.targets[0].id)
    return names


def imported(tree):
    return [alias.name for node in tree.body if isinstance(node, ast.ImportFrom) for alias in node.names]


def nodes(kind):
    return [(path, node) for path, tree in TREES.items() for node in ast.walk(tree) if isinstance(node, kind)]


def classes():
    return [node for path, node in nodes(ast.ClassDef)]


def own_methods():
    return {part.name for one in classes() for part in one.body if isinstance(part, ast.FunctionDef)}


def own_values():
    return {node.attr for path, node in nodes(ast.Attribute) if isinstance(node.ctx, ast.Store)}


def called(node):
    # The name that is called, of a function or a method; None for all else.
    if not isinstance(node, ast.Call):
        return None
    return node.func.id if isinstance(node.func, ast.Name) else getattr(node.func, "attr", None)


def parents(tree):
    return {part: node for node in ast.walk(tree) for part in ast.iter_child_nodes(node)}


def is_walked(node, above):
    if isinstance(above, (ast.For, ast.comprehension)):
        return above.iter is node
    if called(above) in ("min", "max"):
        return len(above.args) == 1
    if called(above) == "join":
        return isinstance(above.func.value, ast.Constant)
    return called(above) in WALKERS and (above.args[0] is node or called(above) == "zip")


class Case(unittest.TestCase):
    def assert_row(self, held, path, node, words):
        self.assertTrue(held, f"{path.name}, row {getattr(node, 'lineno', 0)}: {words}")


class Files(Case):
    def test_names(self):
        for path in PACKAGE.rglob("*"):
            if "__pycache__" in path.parts:
                continue
            if path.is_dir():
                self.assertTrue((path / "__init__.py").is_file(), path)
            else:
                self.assertEqual(path.suffix, ".py", path)
            self.assertRegex(path.stem, r"\A(__init__|__main__|[a-z][a-z0-9_]*)\Z")
            self.assertNotIn(path.stem, FOLDER_NAMES | set(dir(builtins)))
            self.assertFalse(path.stem.startswith("test_") or WORDS.fullmatch(path.stem))

    def test_signs_rows_and_words(self):
        for path in FILES:
            rows = path.read_text(encoding="utf-8").split("\n")
            self.assertLessEqual(len(rows), 400, path)
            for number, row in enumerate(rows, start=1):
                where = f"{path.name}, row {number}"
                self.assertRegex(row, r"\A[ -~]{0,120}\Z", where)
                self.assertIsNone(WORDS.search(row), where)

    def test_imports(self):
        draws = {}
        for path, tree in TREES.items():
            draws[path] = []
            for node in ast.walk(tree):
                if isinstance(node, ast.ImportFrom):
                    source = ROOT.joinpath(*node.module.split(".")).with_suffix(".py")
                    self.assert_row(node in tree.body and node.level == 0, path, node, "import")
                    self.assert_row(source in TREES, path, node, "not a file of the package")
                    for alias in node.names:
                        self.assert_row(alias.name in defined(TREES[source]), path, node, "not defined there")
                    draws[path].append(source)
        while draws:
            free = [path for path, sources in draws.items() if not set(sources) & set(draws)]
            self.assertTrue(free, f"files draw from one another: {sorted(draws)}")
            for path in free:
                draws.pop(path)


class Form(Case):
    def test_tops(self):
        for path, tree in TREES.items():
            self.assertTrue(is_docstring(tree.body[0]), path)
            for node in tree.body[1:]:
                held = isinstance(node, (ast.ImportFrom, ast.FunctionDef, ast.ClassDef, ast.Assign))
                self.assert_row(held, path, node, "at a file's top")
            names = defined(tree) + imported(tree)
            self.assertEqual(len(names), len(set(names)), path)

    def test_statements(self):
        for path, tree in TREES.items():
            for node in ast.walk(tree):
                if not isinstance(node, ast.stmt):
                    continue
                self.assert_row(isinstance(node, STATEMENTS), path, node, "no such statement")
                if isinstance(node, ast.Expr) and node is not tree.body[0]:
                    self.assert_row(isinstance(node.value, ast.Call), path, node, "a call by itself")
                if isinstance(node, ast.Assign):
                    held = len(node.targets) == 1 and not isinstance(node.targets[0], (ast.Tuple, ast.List))
                    self.assert_row(held, path, node, "one target")
                if isinstance(node, (ast.For, ast.While)):
                    self.assert_row(not node.orelse, path, node, "else behind a loop")
                if isinstance(node, ast.Try):
                    named = all([handler.type is not None for handler in node.handlers])
                    self.assert_row(named and not node.finalbody, path, node, "try")
                if isinstance(node, ast.Raise):
                    self.assert_row(isinstance(node.exc, ast.Call), path, node, "an error made on the spot")

    def test_expressions(self):
        for path, node in nodes(ast.expr):
            self.assert_row(isinstance(node, EXPRESSIONS), path, node, "no such expression")
            if isinstance(node, ast.Constant):
                held = node.value is None or isinstance(node.value, (bool, int, str))
                self.assert_row(held and "%" not in str(node.value), path, node, "value")
            if isinstance(node, ast.BinOp):
                self.assert_row(not isinstance(node.op, (ast.Div, ast.MatMult)), path, node, "operator")
                if isinstance(node.op, ast.Pow):
                    held = isinstance(node.right, ast.Constant) and 0 <= node.right.value <= 64
                    self.assert_row(held, path, node, "exponent")
            if isinstance(node, ast.Compare) and any([isinstance(op, (ast.Is, ast.IsNot)) for op in node.ops]):
                self.assert_row(isinstance(node.comparators[0], ast.Constant), path, node, "is")
            if isinstance(node, ast.ListComp):
                held = len(node.generators) == 1 and len(node.generators[0].ifs) < 2
                self.assert_row(held, path, node, "comprehension")

    def test_walked_at_once(self):
        for path, tree in TREES.items():
            above = parents(tree)
            for node in above:
                if called(node) in WALKED:
                    self.assert_row(is_walked(node, above[node]), path, node, "walked on the spot")

    def test_sets(self):
        for path, tree in TREES.items():
            above = parents(tree)
            for node in above:
                if called(node) in ("set", "frozenset"):
                    holder = above[node]
                    while isinstance(holder, ast.BinOp):
                        holder = above[holder]
                    held = isinstance(holder, ast.Compare)
                    held = held or (called(holder) in ("sorted", "len") and not holder.keywords)
                    self.assert_row(held, path, node, "a set is not kept")

    def test_keywords(self):
        for path, node in nodes(ast.Call):
            given = {keyword.arg for keyword in node.keywords}
            if isinstance(node.func, ast.Name) and node.func.id in OWN_OF_PYTHON:
                self.assert_row(given <= KEYWORDS.get(node.func.id, set()), path, node, "keyword")
            elif isinstance(node.func, ast.Attribute) and node.func.attr in METHODS:
                self.assert_row(not given, path, node, "keyword")

    def test_functions(self):
        for path, node in nodes(ast.FunctionDef):
            self.assert_row(node.end_lineno - node.lineno < 40, path, node, "length")
            self.assert_row(not node.decorator_list and node.returns is None, path, node, "decorator, annotation")
            given = node.args
            self.assert_row(not (given.vararg or given.kwarg or given.kwonlyargs or given.posonlyargs),
                            path, node, "parameters")

    def test_defaults(self):
        for path, node in nodes((ast.FunctionDef, ast.Lambda)):
            for default in node.args.defaults:
                self.assert_row(isinstance(default, ast.Constant), path, default, "a default that is no plain value")

    def test_classes(self):
        for path, node in nodes(ast.ClassDef):
            self.assert_row(node in TREES[path].body and len(node.bases) < 2, path, node, "class")
            self.assert_row(not node.decorator_list and not node.keywords, path, node, "class")
            for part in node.body:
                self.assert_row(isinstance(part, (ast.FunctionDef, ast.Pass)), path, part, "class body")
            names = [part.name for part in node.body if isinstance(part, ast.FunctionDef)]
            self.assert_row(len(names) == len(set(names)), path, node, "a method twice")


class Names(Case):
    def bound(self, tree):
        for node in ast.walk(tree):
            if isinstance(node, ast.Name) and isinstance(node.ctx, ast.Store):
                yield node, node.id
            elif isinstance(node, ast.arg):
                yield node, node.arg

    def test_plain_names(self):
        for path, tree in TREES.items():
            for node in ast.walk(tree):
                for field in ("id", "attr", "arg", "name"):
                    name = getattr(node, field, None)
                    if isinstance(name, str) and name not in DOUBLE:
                        self.assert_row(re.fullmatch(r"[A-Za-z][A-Za-z0-9_]*", name), path, node, name)
                        self.assert_row(name not in UNUSED, path, node, name)

    def test_pythons_own_names(self):
        for path, node in nodes(ast.Name):
            self.assert_row(node.id in OWN_OF_PYTHON or not hasattr(builtins, node.id), path, node, node.id)

    def test_bound_names_hide_nothing(self):
        for path, tree in TREES.items():
            hidden = set(imported(tree)) | set(dir(builtins))
            hidden |= {node.name for node in tree.body if isinstance(node, ast.ClassDef)}
            for node, name in self.bound(tree):
                self.assert_row(name not in hidden, path, node, name)

    def test_methods_and_values(self):
        self.assertEqual(own_methods() & own_values(), set())
        taken = set()
        for kind in (str, int, list, dict, set, bytes, tuple):
            taken |= set(dir(kind))
        self.assertEqual((own_methods() - DOUBLE - METHODS) & taken, set())
        self.assertEqual(own_values() & taken, set())
        for path, node in nodes(ast.Attribute):
            held = node.attr in METHODS | DOUBLE | own_methods() | own_values()
            self.assert_row(held, path, node, node.attr)


if __name__ == "__main__":
    unittest.main()
