"""The rules of the language subset that a look at each file can tell."""

import ast
import builtins
import pathlib
import re
import unittest

PACKAGE = pathlib.Path(__file__).resolve().parent.parent / "restlesshelf"
FILES = sorted(PACKAGE.rglob("*.py"))

ALLOWED_BUILTINS = set(
    "len range enumerate zip min max sum abs sorted reversed int str bool list tuple dict set frozenset isinstance "
    "ord property repr any all divmod pow iter next map super Exception ValueError TypeError KeyError IndexError LookupError "
    "ZeroDivisionError ArithmeticError OverflowError RuntimeError NotImplementedError StopIteration".split()
)
LIBRARY = {
    "heapq": {"heappush", "heappop", "heapify", "heapreplace", "heappushpop"},
    "math": {"gcd", "lcm", "isqrt", "comb", "perm", "factorial"},
    "itertools": {"product", "combinations", "permutations", "chain", "accumulate", "pairwise", "islice"},
    "collections": {"defaultdict"},
}
BARRED_WORDS = set(
    "type typing typing_extensions enum Enum IntEnum StrEnum Flag IntFlag Generic Protocol ABC ABCMeta namedtuple "
    "NamedTuple TypedDict TYPE_CHECKING abstractmethod dataclass overload contextmanager".split()
)
BARRED_NAMES = set("register mro elements open input law version_info with_traceback add_note".split())
METHODS = set(
    "append clear copy count endswith extend find get index insert isalnum isalpha isdigit islower isspace isupper "
    "items join keys ljust lower lstrip partition pop remove replace reverse rfind rjust rpartition rsplit rstrip "
    "setdefault split splitlines startswith strip update upper values zfill bit_length add discard sort "
    "__init__".split()
)
BARRED_NODES = (
    ast.Global, ast.AsyncFunctionDef, ast.AsyncFor, ast.AsyncWith, ast.Await, ast.Yield, ast.YieldFrom, ast.Div,
    ast.MatMult, ast.AnnAssign,
)


def trees():
    return [(path, ast.parse(path.read_text())) for path in FILES]


def defined_names(tree):
    """All names that a file gives a meaning."""
    names = []
    for node in ast.walk(tree):
        if isinstance(node, (ast.FunctionDef, ast.ClassDef)):
            names.append(node.name)
        elif isinstance(node, ast.arg):
            names.append(node.arg)
        elif isinstance(node, ast.Name) and isinstance(node.ctx, ast.Store):
            names.append(node.id)
        elif isinstance(node, ast.alias):
            names.append(node.asname or node.name)
    return names


class LanguageTests(unittest.TestCase):
    def test_files(self):
        self.assertTrue((PACKAGE / "__init__.py").is_file())
        for path in PACKAGE.rglob("*"):
            if "__pycache__" not in path.parts:
                self.assertRegex(path.name, r"^[a-z_][a-z0-9_]*\.py$", path)

    def test_lines(self):
        for path in FILES:
            text = path.read_text()
            lines = text.split("\n")
            self.assertLessEqual(len(lines), 400, path)
            for at, line in enumerate(lines, 1):
                self.assertLessEqual(len(line), 120, (path, at))
                self.assertRegex(line, r"^[ -~]*$", (path, at))

    def test_functions_are_short(self):
        for path, tree in trees():
            for node in ast.walk(tree):
                if isinstance(node, ast.FunctionDef):
                    self.assertLessEqual(node.end_lineno - node.lineno + 1, 40, (path, node.name))

    def test_module_level(self):
        allowed = (ast.Import, ast.ImportFrom, ast.FunctionDef, ast.ClassDef, ast.Assign)
        for path, tree in trees():
            for at, node in enumerate(tree.body):
                is_docstring = at == 0 and isinstance(node, ast.Expr) and isinstance(node.value, ast.Constant)
                self.assertTrue(is_docstring or isinstance(node, allowed), (path, node.lineno))

    def test_imports(self):
        for path, tree in trees():
            for node in ast.walk(tree):
                self.assertNotIsInstance(node, ast.Import, path)
                if isinstance(node, ast.ImportFrom):
                    self.assertEqual(node.level, 0, path)
                    for alias in node.names:
                        self.assert_import_is_allowed(path, node.module, alias)

    def assert_import_is_allowed(self, path, module, alias):
        self.assertIsNone(alias.asname, path)
        if module in LIBRARY:
            self.assertIn(alias.name, LIBRARY[module], path)
            return
        package, _, name = module.partition(".")
        self.assertEqual(package, "restlesshelf", path)
        body = ast.parse((PACKAGE / f"{name}.py").read_text()).body
        own = [node.name for node in body if isinstance(node, (ast.FunctionDef, ast.ClassDef))]
        own += [node.targets[0].id for node in body if isinstance(node, ast.Assign)]
        self.assertIn(alias.name, own, (path, module))

    def test_no_two_files_import_from_each_other(self):
        needs = {}
        for path, tree in trees():
            modules = [node.module for node in ast.walk(tree) if isinstance(node, ast.ImportFrom)]
            needs[path.stem] = {module.partition(".")[2] for module in modules if module not in LIBRARY}
        while needs:
            free = [name for name, others in needs.items() if not others & set(needs)]
            self.assertTrue(free, needs)
            for name in free:
                del needs[name]

    def test_builtins(self):
        for path, tree in trees():
            own = set(defined_names(tree))
            for node in ast.walk(tree):
                if isinstance(node, ast.Name) and node.id not in own and hasattr(builtins, node.id):
                    self.assertIn(node.id, ALLOWED_BUILTINS, (path, node.lineno))

    def test_names(self):
        for path, tree in trees():
            for name in defined_names(tree):
                self.assertRegex(name, r"^(_|_?[A-Za-z][A-Za-z0-9_]*|__[a-z]+__)$", path)
                self.assertFalse(hasattr(builtins, name) and name[:2] != "__", (path, name))
                self.assertNotIn(name, BARRED_NAMES, path)

    def test_statements_and_signs(self):
        for path, tree in trees():
            for node in ast.walk(tree):
                self.assertNotIsInstance(node, BARRED_NODES, (path, getattr(node, "lineno", None)))
                self.assertFalse(isinstance(node, ast.Constant) and isinstance(node.value, float), path)
                for decorator in getattr(node, "decorator_list", ()):
                    self.assertTrue(isinstance(decorator, ast.Name) and decorator.id == "property", path)
                if isinstance(node, ast.BinOp) and isinstance(node.op, ast.Pow):
                    self.assertIsInstance(node.right, ast.Constant, (path, node.lineno))
                if isinstance(node, ast.Compare):
                    self.assert_is_stands_beside_constants(path, node)

    def assert_is_stands_beside_constants(self, path, node):
        for sign, right in zip(node.ops, node.comparators):
            if isinstance(sign, (ast.Is, ast.IsNot)):
                self.assertIsInstance(right, ast.Constant, (path, node.lineno))

    def test_methods(self):
        defined = {node.name for _, tree in trees() for node in ast.walk(tree) if isinstance(node, ast.FunctionDef)}
        for path, tree in trees():
            for node in ast.walk(tree):
                if isinstance(node, ast.Call) and isinstance(node.func, ast.Attribute):
                    self.assertIn(node.func.attr, METHODS | defined, (path, node.lineno))

    def test_words_and_strings(self):
        for path, tree in trees():
            docstrings = {id(node.body[0].value) for node in ast.walk(tree)
                          if isinstance(node, (ast.Module, ast.ClassDef, ast.FunctionDef))
                          and node.body and isinstance(node.body[0], ast.Expr)}
            for node in ast.walk(tree):
                if isinstance(node, ast.Constant) and isinstance(node.value, str):
                    self.assertNotIn("%", node.value, (path, node.lineno))
                    if id(node) not in docstrings:
                        self.assertFalse(BARRED_WORDS & set(re.findall(r"\w+", node.value)), (path, node.lineno))
                if isinstance(node, ast.Name):
                    self.assertNotIn(node.id, BARRED_WORDS, path)
                if isinstance(node, ast.Attribute):
                    self.assertNotIn(node.attr, BARRED_WORDS | BARRED_NAMES, path)

    def test_locals_are_not_called_like_imports_or_classes(self):
        for path, tree in trees():
            barred = {node.name for node in tree.body if isinstance(node, ast.ClassDef)}
            barred |= {alias.name for node in tree.body if isinstance(node, ast.ImportFrom) for alias in node.names}
            top = [node.name for node in tree.body if isinstance(node, (ast.FunctionDef, ast.ClassDef))]
            top += [node.targets[0].id for node in tree.body if isinstance(node, ast.Assign)]
            self.assertEqual(len(top), len(set(top)), path)
            for node in ast.walk(tree):
                if isinstance(node, ast.arg):
                    self.assertNotIn(node.arg, barred | set(top), (path, node.lineno))
                if isinstance(node, ast.Name) and isinstance(node.ctx, ast.Store):
                    self.assertNotIn(node.id, barred, (path, node.lineno))


if __name__ == "__main__":
    unittest.main()
