"""What a test can see of the rules for the package's code: L1 to L3, L5 to L8, L10, L12, L14 to L20, L22 to L28."""

import ast
import builtins
import re
import unittest
from pathlib import Path

PACKAGE = Path(__file__).resolve().parent.parent / "voidquilt"
FILES = sorted(path for path in PACKAGE.iterdir() if path.name != "__pycache__")
SOURCES = {path.stem: path.read_bytes().decode("ascii") for path in FILES if path.suffix == ".py"}
TREES = {stem: ast.parse(source) for stem, source in SOURCES.items()}

BUILTINS = set("""len range enumerate zip min max sum abs sorted reversed int str bool bytes list tuple dict set
    frozenset isinstance ord repr any all divmod iter next Exception ValueError TypeError KeyError IndexError
    LookupError ZeroDivisionError ArithmeticError OverflowError RuntimeError NotImplementedError AttributeError
    StopIteration NotImplemented super property staticmethod classmethod""".split())
METHODS = set("""append clear copy count endswith extend find get index insert isalnum isalpha isdigit islower isspace
    isupper items join keys ljust lower lstrip partition pop remove replace reverse rfind rjust rpartition rsplit
    rstrip setdefault split splitlines startswith strip update upper values zfill bit_length title capitalize swapcase
    casefold center expandtabs removeprefix removesuffix rindex isascii isdecimal isnumeric istitle isidentifier
    isprintable translate sort add discard""".split())
DOUBLE = set("""__init__ __eq__ __repr__ __str__ __len__ __enter__ __exit__ __call__ __iter__ __lt__ __le__ __gt__
    __ge__ __ne__ __contains__ __getitem__ __setitem__ __bool__""".split())
BARRED_WORDS = re.compile(r"\b(type|typing|typing_extensions|enum|Enum|IntEnum|StrEnum|Flag|IntFlag|Generic|Protocol|"
                          r"ABC|ABCMeta|namedtuple|NamedTuple|TypedDict|TYPE_CHECKING|abstractmethod)\b"
                          r"|dataclass|overload|contextmanager")
BARRED_NAMES = set("""register mro elements open input version_info with_traceback add_note attrgetter breakpoint
    builtins compile copyright credits delattr dir eval exec exit gc getattr globals hasattr help id importlib license
    locals methodcaller os quit setattr vars sys format format_map print chr float""".split())
# Where a class has __eq__ these take a list, not a generator expression.
NEED_A_LIST = set("any all min max sum sorted".split())
# Each may be called off an own object only, not off a list.
BARRED_CALLS = {"sort", "fromhex", "to_bytes", "bytes"}
# Iterated where they stand, never kept.
AT_ONCE = set("zip enumerate reversed range iter".split())
AT_ONCE_METHODS = set("items keys values".split())
TAKERS = set("list tuple dict sorted sum any all enumerate zip min max reversed next".split())
BARRED_NODES = (ast.Import, ast.Global, ast.AsyncFunctionDef, ast.AsyncFor, ast.AsyncWith, ast.Await, ast.Div)


def nodes(kind):
    return [(stem, node) for stem, tree in TREES.items() for node in ast.walk(tree) if isinstance(node, kind)]


def bound_names(tree):
    """All names that a file binds anywhere: imports, definitions, parameters, targets, caught errors."""
    found = set()
    for node in ast.walk(tree):
        if isinstance(node, (ast.FunctionDef, ast.ClassDef)):
            found.add(node.name)
        elif isinstance(node, ast.arg):
            found.add(node.arg)
        elif isinstance(node, ast.alias):
            found.add(node.asname or node.name)
        elif isinstance(node, ast.Name) and not isinstance(node.ctx, ast.Load):
            found.add(node.id)
        elif isinstance(node, ast.ExceptHandler) and node.name:
            found.add(node.name)
    return found


def top_names(tree):
    """The names that a file itself defines at module level, in order."""
    found = []
    for node in tree.body:
        if isinstance(node, (ast.FunctionDef, ast.ClassDef)):
            found.append(node.name)
        elif isinstance(node, ast.Assign):
            found.append(node.targets[0].id)
    return found


def imports_of(stem):
    return [node.module.split(".")[1] for node in TREES[stem].body if isinstance(node, ast.ImportFrom)]


def is_docstring(node):
    return isinstance(node, ast.Expr) and isinstance(node.value, ast.Constant) and isinstance(node.value.value, str)


class LanguageTest(unittest.TestCase):
    def test_files(self):
        self.assertIn("__init__", SOURCES)
        for path in FILES:
            self.assertRegex(path.name, r"^([a-z][a-z0-9_]*|__init__|__main__)\.py$")

    def test_signs_and_sizes(self):
        for stem, source in SOURCES.items():
            self.assertRegex(source, r"\A[ -~\n]*\Z", stem)
            self.assertLessEqual(len(source.splitlines()), 400, stem)
            self.assertLessEqual(max(map(len, source.splitlines())), 120, stem)
            self.assertIsNone(BARRED_WORDS.search(source), stem)
        for stem, node in nodes(ast.FunctionDef):
            self.assertLessEqual(node.end_lineno - node.lineno + 1, 40, (stem, node.name))

    def test_module_level(self):
        allowed = (ast.ImportFrom, ast.FunctionDef, ast.ClassDef, ast.Assign)
        for stem, tree in TREES.items():
            for node in tree.body:
                self.assertTrue(isinstance(node, allowed) or is_docstring(node), (stem, node.lineno))
            names = top_names(tree) + [alias.name for _, node in nodes(ast.ImportFrom) if node in tree.body
                                       for alias in node.names]
            self.assertEqual(len(names), len(set(names)), stem)

    def test_imports_name_the_file_that_defines_the_name(self):
        for stem, node in nodes(ast.ImportFrom):
            self.assertEqual((node.level, node.module.split(".")[0]), (0, "voidquilt"), stem)
            for alias in node.names:
                self.assertIn(alias.name, top_names(TREES[node.module.split(".")[1]]), stem)

    def test_imports_run_in_no_circle(self):
        left = dict.fromkeys(SOURCES)
        while left:
            free = [stem for stem in left if not set(imports_of(stem)) & set(left)]
            self.assertTrue(free, list(left))
            for stem in free:
                del left[stem]

    def test_barred_nodes(self):
        self.assertEqual(nodes(BARRED_NODES), [])
        for stem, node in nodes(ast.Constant):
            self.assertNotIsInstance(node.value, (float, complex), (stem, node.lineno))
            self.assertNotIn("%", str(node.value), (stem, node.lineno))
        for stem, node in nodes(ast.Compare):
            for sign, thing in zip(node.ops, node.comparators):
                if isinstance(sign, (ast.Is, ast.IsNot)):
                    self.assertIn(getattr(thing, "value", 0), (None, True, False), (stem, node.lineno))

    def test_names(self):
        for stem, tree in TREES.items():
            bound = bound_names(tree)
            imported = {alias.name for node in tree.body if isinstance(node, ast.ImportFrom) for alias in node.names}
            for node in ast.walk(tree):
                if isinstance(node, ast.Name):
                    self.assertTrue(node.id in bound or node.id in BUILTINS, (stem, node.lineno, node.id))
                if isinstance(node, ast.arg) or isinstance(node, ast.Name) and isinstance(node.ctx, ast.Store):
                    self.assertNotIn(getattr(node, "arg", getattr(node, "id", "")), imported, (stem, node.lineno))
            methods = {row.name for top in tree.body if isinstance(top, ast.ClassDef)
                       for row in top.body if isinstance(row, ast.FunctionDef)}
            self.assertEqual(bound & (BUILTINS | BARRED_NAMES), set(), stem)
            self.assertEqual((bound - methods) & set(dir(builtins)), set(), stem)
            for name in bound - DOUBLE:
                self.assertRegex(name, r"^[A-Za-z][A-Za-z0-9_]*$", stem)

    def test_methods_that_are_called(self):
        own = {node.name for _, top in nodes(ast.ClassDef) for node in top.body if isinstance(node, ast.FunctionDef)}
        for stem, node in nodes(ast.Call):
            if isinstance(node.func, ast.Attribute):
                self.assertIn(node.func.attr, METHODS | own, (stem, node.lineno))

    def test_classes(self):
        methods = set()
        for stem, node in nodes(ast.ClassDef):
            for row in node.body:
                self.assertTrue(isinstance(row, ast.FunctionDef) or is_docstring(row), (stem, row.lineno))
                if isinstance(row, ast.FunctionDef):
                    methods.add(row.name)
        stored = {node.attr for _, node in nodes(ast.Attribute) if isinstance(node.ctx, ast.Store)}
        self.assertEqual(methods & stored, set())
        for stem, node in nodes(ast.Attribute):
            self.assertIn(node.attr, methods | stored | METHODS | DOUBLE, (stem, node.lineno))

    def test_calls(self):
        for stem, node in nodes(ast.Call):
            where = (stem, node.lineno)
            name = getattr(node.func, "id", getattr(node.func, "attr", ""))
            self.assertNotIn(name, BARRED_CALLS, where)
            if name in NEED_A_LIST:
                self.assertFalse(any(isinstance(part, ast.GeneratorExp) for part in node.args), where)

    def test_stars_in_calls(self):
        for stem, node in nodes(ast.Call):
            for part in node.args:
                if isinstance(part, ast.Starred):
                    self.assertIsInstance(part.value, (ast.Name, ast.Attribute, ast.List, ast.Tuple), (stem, node.lineno))

    def test_what_is_iterated_at_once(self):
        for stem, tree in TREES.items():
            fine = set()
            for node in ast.walk(tree):
                if isinstance(node, (ast.For, ast.comprehension)):
                    fine.add(node.iter)
                elif isinstance(node, ast.Call) and getattr(node.func, "id", "") in TAKERS:
                    fine.update(node.args)
            for node in ast.walk(tree):
                if isinstance(node, ast.Call) and (getattr(node.func, "id", "") in AT_ONCE
                                                   or getattr(node.func, "attr", "") in AT_ONCE_METHODS):
                    self.assertIn(node, fine, (stem, node.lineno))

    def test_sets(self):
        for stem, function in nodes(ast.FunctionDef):
            stored = [node.targets[0].id for node in ast.walk(function)
                      if isinstance(node, ast.Assign) and self.is_set(node.value)]
            self.assertEqual(len(stored), len(set(stored)), (stem, function.name))
            for node in ast.walk(function):
                where = (stem, getattr(node, "lineno", 0))
                if isinstance(node, (ast.For, ast.comprehension)):
                    self.assertFalse(self.is_set(node.iter) or getattr(node.iter, "id", "") in stored, where)
                if isinstance(node, ast.Return):
                    self.assertFalse(self.is_set(node.value) or getattr(node.value, "id", "") in stored, where)

    @staticmethod
    def is_set(node):
        made = isinstance(node, ast.Call) and getattr(node.func, "id", "") in ("set", "frozenset")
        return made or isinstance(node, (ast.Set, ast.SetComp))

    def test_raise_makes_its_error_on_the_spot(self):
        for stem, node in nodes(ast.Raise):
            self.assertIsInstance(node.exc, ast.Call, (stem, node.lineno))
            self.assertIn(node.exc.func.id, top_names(TREES["errors"]), (stem, node.lineno))

    def test_double_underscore_methods(self):
        for stem, node in nodes(ast.FunctionDef):
            if node.name in ("__eq__", "__len__", "__repr__"):
                where = (stem, node.lineno)
                self.assertIsInstance(node.body[-1], ast.Return, where)
                for inner in ast.walk(node):
                    self.assertNotIsInstance(inner, (ast.AugAssign, ast.Delete), where)
                    if isinstance(inner, ast.Assign):
                        self.assertIsInstance(inner.value, (ast.List, ast.ListComp), where)

    def test_loops_leave_alone_what_they_go_over(self):
        changing = set("append clear extend insert pop remove reverse setdefault update".split())
        for stem, loop in nodes(ast.For):
            gone_over = {ast.unparse(node) for node in ast.walk(loop.iter) if isinstance(node, (ast.Name, ast.Attribute))}
            for row in loop.body:
                for node in ast.walk(row):
                    if isinstance(node, ast.Call) and getattr(node.func, "attr", "") in changing:
                        self.assertNotIn(ast.unparse(node.func.value), gone_over, (stem, node.lineno))


if __name__ == "__main__":
    unittest.main()
