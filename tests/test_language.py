"""What can be seen of the rules of ../shared/LANGUAGE.md in the files of the package."""

import ast
import builtins
import pathlib
import re
import unittest

PACKAGE = pathlib.Path(__file__).resolve().parent.parent / "pressnotes"

ALLOWED_BUILTINS = set("""
    len range enumerate zip min max sum abs sorted reversed int str bool bytes list tuple dict set frozenset
    isinstance ord repr any all divmod iter next super property staticmethod classmethod object
    Exception ValueError TypeError KeyError IndexError LookupError ZeroDivisionError ArithmeticError OverflowError
    RuntimeError NotImplementedError AttributeError StopIteration NotImplemented
""".split())

BARRED_WORDS = re.compile(
    r"\b(type|typing|typing_extensions|enum|Enum|IntEnum|StrEnum|Flag|IntFlag|Generic|Protocol|ABC|ABCMeta|"
    r"namedtuple|NamedTuple|TypedDict|TYPE_CHECKING|abstractmethod)\b|dataclass|overload|contextmanager")

BUILTIN_METHODS = set("""
    append clear copy count endswith extend find get index insert isalnum isalpha isdigit islower isspace isupper items
    join keys ljust lower lstrip partition pop remove replace reverse rfind rjust rpartition rsplit rstrip setdefault
    split splitlines startswith strip update upper values zfill bit_length add discard sort
""".split())

BARRED_NODES = (
    ast.Global, ast.AsyncFunctionDef, ast.AsyncFor, ast.AsyncWith, ast.Await, ast.Div, ast.MatMult,
)

BARRED_NAMES = set("""
    register mro elements open input version_info with_traceback add_note breakpoint builtins compile delattr dir
    eval exec exit gc getattr globals hasattr help id importlib locals os quit setattr vars sys chr format print
""".split())


def files():
    return sorted(PACKAGE.rglob("*.py"))


def trees():
    for path in files():
        yield path.name, ast.parse(path.read_text())


def bound_names(tree):
    """All names that functions, parameters, assignments, loops and handlers bind."""
    for node in ast.walk(tree):
        if isinstance(node, ast.Name) and isinstance(node.ctx, (ast.Store, ast.Del)):
            yield node.id
        elif isinstance(node, ast.arg):
            yield node.arg
        elif isinstance(node, (ast.FunctionDef, ast.ClassDef)):
            yield node.name
        elif isinstance(node, ast.ExceptHandler) and node.name:
            yield node.name


class LanguageTest(unittest.TestCase):
    def test_files(self):
        self.assertTrue((PACKAGE / "__init__.py").is_file())
        self.assertLessEqual(len(files()), 100)
        for path in PACKAGE.rglob("*"):
            if "__pycache__" not in path.parts:
                self.assertRegex(path.name, r"^([a-z0-9_]+\.py|[a-z0-9_]+)$")

    def test_sizes_and_signs(self):
        for path in files():
            lines = path.read_text().split("\n")
            self.assertLessEqual(len(lines) - 1, 400, path.name)
            for line in lines:
                self.assertLessEqual(len(line), 120, path.name)
                self.assertTrue(all(" " <= sign <= "~" for sign in line), (path.name, line))
                self.assertIsNone(BARRED_WORDS.search(line), (path.name, line))
        for name, tree in trees():
            for node in ast.walk(tree):
                if isinstance(node, ast.FunctionDef):
                    self.assertLessEqual(node.end_lineno - node.lineno + 1, 40, (name, node.name))

    def test_imports(self):
        for name, tree in trees():
            for node in ast.walk(tree):
                self.assertNotIsInstance(node, ast.Import, name)
                if isinstance(node, ast.ImportFrom) and node.module != "__future__":
                    self.assertEqual(0, node.level, name)
                    self.assertTrue(node.module.startswith("pressnotes."), name)
                    self.assertIn(node, tree.body, name)
                    self.assertNotIn("*", [alias.name for alias in node.names], name)

    def test_imports_name_the_file_that_defines(self):
        defined = {}
        for name, tree in trees():
            own = [node.name for node in tree.body if isinstance(node, (ast.FunctionDef, ast.ClassDef))]
            own += [target.id for node in tree.body if isinstance(node, ast.Assign) for target in node.targets]
            self.assertEqual(len(own), len(set(own)), name)
            defined["pressnotes." + name[:-3]] = own
        for name, tree in trees():
            for node in tree.body:
                if isinstance(node, ast.ImportFrom) and node.module != "__future__":
                    for alias in node.names:
                        self.assertIn(alias.name, defined[node.module], name)

    def test_no_two_files_import_each_other(self):
        wants = {}
        for name, tree in trees():
            wants[name[:-3]] = {node.module.split(".")[-1] for node in tree.body if isinstance(node, ast.ImportFrom)}
        while wants:
            free = [name for name in wants if not wants[name] & set(wants)]
            self.assertTrue(free, wants)
            for name in free:
                del wants[name]

    def test_module_level(self):
        plain = (ast.ImportFrom, ast.FunctionDef, ast.ClassDef, ast.Assign, ast.AnnAssign)
        for name, tree in trees():
            for at, node in enumerate(tree.body):
                is_docstring = at == 0 and isinstance(node, ast.Expr) and isinstance(node.value, ast.Constant)
                self.assertTrue(is_docstring or isinstance(node, plain), (name, node.lineno))

    def test_names(self):
        for name, tree in trees():
            imported = [alias.name for node in tree.body if isinstance(node, ast.ImportFrom) for alias in node.names]
            for bound in bound_names(tree):
                if re.fullmatch("__[a-z]+__", bound):
                    continue
                self.assertRegex(bound, r"^[A-Za-z][A-Za-z0-9_]*$", name)
                self.assertNotIn(bound, imported, name)
                self.assertFalse(hasattr(builtins, bound), (name, bound))
                self.assertNotIn(bound, BARRED_NAMES, name)

    def test_builtins(self):
        for name, tree in trees():
            own = set(bound_names(tree))
            for node in ast.walk(tree):
                if isinstance(node, ast.Name) and node.id not in own and hasattr(builtins, node.id):
                    self.assertIn(node.id, ALLOWED_BUILTINS, (name, node.lineno))

    def test_expressions(self):
        for name, tree in trees():
            for node in ast.walk(tree):
                self.assertNotIsInstance(node, BARRED_NODES, name)
                if isinstance(node, ast.ClassDef):
                    self.assertEqual([], node.decorator_list, name)
                if isinstance(node, ast.Constant):
                    self.assertNotIsInstance(node.value, (float, complex), name)
                    self.assertNotIn("%", str(node.value), name)
                if isinstance(node, ast.Compare):
                    for sign, right in zip(node.ops, node.comparators):
                        if isinstance(sign, (ast.Is, ast.IsNot)):
                            self.assertIsInstance(right, ast.Constant, (name, node.lineno))
                            self.assertIn(right.value, (None, True, False), (name, node.lineno))
                if isinstance(node, ast.ExceptHandler):
                    self.assertIsNotNone(node.type, (name, node.lineno))

    def test_methods_and_attributes(self):
        methods, stored, called, read = {}, set(), set(), set()
        for name, tree in trees():
            for node in ast.walk(tree):
                if isinstance(node, ast.ClassDef):
                    own = [item.name for item in node.body if isinstance(item, ast.FunctionDef)]
                    self.assertEqual(len(own), len(set(own)), (name, node.name))
                    methods.update({method: node.name for method in own if not method.startswith("__")})
                elif isinstance(node, ast.Attribute) and isinstance(node.ctx, ast.Store):
                    self.assertIsInstance(node.value, ast.Name, (name, node.lineno))
                    stored.add(node.attr)
                elif isinstance(node, ast.Call) and isinstance(node.func, ast.Attribute):
                    called.add(node.func.attr)
                elif isinstance(node, ast.Attribute):
                    read.add(node.attr)
        self.assertEqual(set(), set(methods) & stored)
        self.assertEqual(set(), called - set(methods) - BUILTIN_METHODS)
        # What is called is looked at above and read here once more, as the function of the call.
        self.assertEqual(set(), read - stored - called)
        self.assertEqual(set(), (stored | set(methods)) & BUILTIN_METHODS)

    def test_raising_and_catching(self):
        for name, tree in trees():
            for node in ast.walk(tree):
                if isinstance(node, ast.Raise):
                    self.assertIsInstance(node.exc, ast.Call, (name, node.lineno))
                    self.assertRegex(node.exc.func.id, "^No[A-Z]", (name, node.lineno))
                if isinstance(node, ast.ExceptHandler):
                    self.assertRegex(node.type.id, "^No[A-Z]", (name, node.lineno))

    def test_no_tables_within_tables_at_module_level(self):
        for name, tree in trees():
            for node in tree.body:
                if isinstance(node, ast.Assign):
                    for inner in ast.walk(node.value):
                        self.assertNotIsInstance(inner, (ast.Call, ast.ListComp, ast.DictComp, ast.Set), name)
                        self.assertTrue(inner is node.value or not isinstance(inner, (ast.List, ast.Dict)), name)
