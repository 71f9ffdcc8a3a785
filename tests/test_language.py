"""What a test can see of the rules for the package's code: L1 to L3, L5 to L8, L10, L12, L14 to L17, L20, L25, L27."""

import ast
import re
import unittest
from pathlib import Path

PACKAGE = Path(__file__).resolve().parent.parent / "voidquilt"
FILES = sorted(path for path in PACKAGE.iterdir() if path.name != "__pycache__")
SOURCES = {path.stem: path.read_bytes().decode("ascii") for path in FILES if path.suffix == ".py"}
TREES = {stem: ast.parse(source) for stem, source in SOURCES.items()}

BUILTINS = set("""len range enumerate zip min max sum abs sorted reversed int str bool bytes list tuple dict set
    frozenset isinstance ord repr any all divmod iter next Exception ValueError TypeError KeyError IndexError
    LookupError ZeroDivisionError ArithmeticError OverflowError RuntimeError NotImplementedError AttributeError
    StopIteration NotImplemented super property staticmethod classmethod""".split())
METHODS = set("""append clear copy count endswith extend find get index insert isalnum isalpha isdigit islower isspace
    isupper items join keys ljust lower lstrip partition pop remove replace reverse rfind rjust rpartition rsplit
    rstrip setdefault split splitlines startswith strip update upper values zfill bit_length title capitalize swapcase
    casefold center expandtabs removeprefix removesuffix rindex isascii isdecimal isnumeric istitle isidentifier
    isprintable translate sort add discard""".split())
DOUBLE = set("""__init__ __eq__ __repr__ __str__ __len__ __enter__ __exit__ __call__ __iter__ __lt__ __le__ __gt__
    __ge__ __ne__ __contains__ __getitem__ __setitem__ __bool__""".split())
BARRED_WORDS = re.compile(r"\b(type|typing|typing_extensions|enum|Enum|IntEnum|StrEnum|Flag|IntFlag|Generic|Protocol|"
                          r"ABC|ABCMeta|namedtuple|NamedTuple|TypedDict|TYPE_CHECKING|abstractmethod)\b"
                          r"|dataclass|overload|contextmanager")
BARRED_NAMES = set("""register mro elements open input version_info with_traceback add_note attrgetter breakpoint
    builtins compile copyright credits delattr dir eval exec exit gc getattr globals hasattr help id importlib license
    locals methodcaller os quit setattr vars sys format format_map print chr float""".split())
BARRED_NODES = (ast.Import, ast.Global, ast.AsyncFunctionDef, ast.AsyncFor, ast.AsyncWith, ast.Await, ast.Div)


def nodes(kind):
    return [(stem, node) for stem, tree in TREES.items() for node in ast.walk(tree) if isinstance(node, kind)]


def bound_names(tree):
    """All names that a file binds anywhere: imports, definitions, parameters, targets, caught errors."""
    found = set()
    for node in ast.walk(tree):
        if isinstance(node, (ast.FunctionDef, ast.ClassDef)):
            found.add(node.name)
        elif isinstance(node, ast.arg):
            found.add(node.arg)
        elif isinstance(node, ast.alias):
            found.add(node.asname or node.name)
        elif isinstance(node, ast.Name) and not isinstance(node.ctx, ast.Load):
            found.add(node.id)
        elif isinstance(node, ast.ExceptHandler) and node.name:
            found.add(node.name)
    return found


def top_names(tree):
    """The names that a file itself defines at module level, in order."""
    found = []
    for node in tree.body:
        if isinstance(node, (ast.FunctionDef, ast.ClassDef)):
            found.append(node.name)
        elif isinstance(node, ast.Assign):
            found.append(node.targets[0].id)
    return found


def imports_of(stem):
    return [node.module.split(".")[1] for node in TREES[stem].body if isinstance(node, ast.ImportFrom)]


def is_docstring(node):
    return isinstance(node, ast.Expr) and isinstance(node.value, ast.Constant) and isinstance(node.value.value, str)


class LanguageTest(unittest.TestCase):
    def test_files(self):
        self.assertIn("__init__", SOURCES)
        for path in FILES:
            self.assertRegex(path.name, r"^([a-z][a-z0-9_]*|__init__|__main__)\.py$")

    def test_signs_and_sizes(self):
        for stem, source in SOURCES.items():
            self.assertRegex(source, r"\A[ -~\n]*\Z", stem)
            self.assertLessEqual(len(source.splitlines()), 400, stem)
            self.assertLessEqual(max(map(len, source.splitlines())), 120, stem)
            self.assertIsNone(BARRED_WORDS.search(source), stem)
        for stem, node in nodes(ast.FunctionDef):
            self.assertLessEqual(node.end_lineno - node.lineno + 1, 40, (stem, node.name))

    def test_module_level(self):
        allowed = (ast.ImportFrom, ast.FunctionDef, ast.ClassDef, ast.Assign)
        for stem, tree in TREES.items():
            for node in tree.body:
                self.assertTrue(isinstance(node, allowed) or is_docstring(node), (stem, node.lineno))
            names = top_names(tree) + [alias.name for _, node in nodes(ast.ImportFrom) if node in tree.body
                                       for alias in node.names]
            self.assertEqual(len(names), len(set(names)), stem)

    def test_imports_name_the_file_that_defines_the_name(self):
        for stem, node in nodes(ast.ImportFrom):
            self.assertEqual((node.level, node.module.split(".")[0]), (0, "voidquilt"), stem)
            for alias in node.names:
                self.assertIn(alias.name, top_names(TREES[node.module.split(".")[1]]), stem)

    def test_imports_run_in_no_circle(self):
        left = dict.fromkeys(SOURCES)
        while left:
            free = [stem for stem in left if not set(imports_of(stem)) & set(left)]
            self.assertTrue(free, list(left))
            for stem in free:
                del left[stem]

    def test_barred_nodes(self):
        self.assertEqual(nodes(BARRED_NODES), [])
        for stem, node in nodes(ast.Constant):
            self.assertNotIsInstance(node.value, (float, complex), (stem, node.lineno))
            self.assertNotIn("%", str(node.value), (stem, node.lineno))
        for stem, node in nodes(ast.Compare):
            for sign, thing in zip(node.ops, node.comparators):
                if isinstance(sign, (ast.Is, ast.IsNot)):
                    self.assertIn(getattr(thing, "value", 0), (None, True, False), (stem, node.lineno))

    def test_names(self):
        for stem, tree in TREES.items():
            bound = bound_names(tree)
            imported = {alias.name for node in tree.body if isinstance(node, ast.ImportFrom) for alias in node.names}
            for node in ast.walk(tree):
                if isinstance(node, ast.Name):
                    self.assertTrue(node.id in bound or node.id in BUILTINS, (stem, node.lineno, node.id))
                if isinstance(node, ast.arg) or isinstance(node, ast.Name) and isinstance(node.ctx, ast.Store):
                    self.assertNotIn(getattr(node, "arg", getattr(node, "id", "")), imported, (stem, node.lineno))
            self.assertEqual(bound & (BUILTINS | BARRED_NAMES), set(), stem)
            for name in bound - DOUBLE:
                self.assertRegex(name, r"^[A-Za-z][A-Za-z0-9_]*$", stem)

    def test_methods_that_are_called(self):
        own = {node.name for _, top in nodes(ast.ClassDef) for node in top.body if isinstance(node, ast.FunctionDef)}
        for stem, node in nodes(ast.Call):
            if isinstance(node.func, ast.Attribute):
                self.assertIn(node.func.attr, METHODS | own, (stem, node.lineno))

    def test_classes(self):
        methods = set()
        for stem, node in nodes(ast.ClassDef):
            for row in node.body:
                self.assertTrue(isinstance(row, ast.FunctionDef) or is_docstring(row), (stem, row.lineno))
                if isinstance(row, ast.FunctionDef):
                    methods.add(row.name)
        stored = {node.attr for _, node in nodes(ast.Attribute) if isinstance(node.ctx, ast.Store)}
        self.assertEqual(methods & stored, set())


if __name__ == "__main__":
    unittest.main()
