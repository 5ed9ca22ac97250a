"""Checks the package against the parts of the language's rules that are easy to check."""

import ast
import builtins
import os
import re
import sys
import unittest

ROOT = os.path.dirname(os.path.dirname(os.path.abspath(__file__)))
PACKAGE = os.path.join(ROOT, "matrixforms")

LIBRARY = {
    "heapq": {"heappush", "heappop", "heapify", "heapreplace", "heappushpop"},
    "math": {"gcd", "lcm", "isqrt", "comb", "perm", "factorial"},
    "itertools": {"product", "combinations", "permutations"},
    "__future__": {"annotations"},
}
# Other tests run examples, for which Python puts the last result into _ there.
PYTHON_NAMES = set(vars(builtins)) - {"_"}
BUILTINS = set(
    "len range enumerate zip min max sum abs sorted reversed int str bool bytes list tuple dict set frozenset"
    " isinstance ord repr any all divmod iter next map super property staticmethod classmethod"
    " Exception ValueError TypeError KeyError IndexError LookupError ZeroDivisionError ArithmeticError"
    " OverflowError RuntimeError NotImplementedError AttributeError StopIteration NotImplemented".split()
)
SPECIAL = set(
    "init eq repr str len enter exit call iter lt le gt ge ne add sub mul floordiv mod pow and or xor lshift rshift"
    " radd rsub rmul rfloordiv rmod rand ror rxor rlshift rrshift iadd isub imul ifloordiv imod ipow iand ior ixor"
    " ilshift irshift neg pos invert abs bool contains getitem setitem".split()
)
NEVER = set(
    "register mro elements open input law version_info with_traceback add_note typing typing_extensions enum Enum"
    " IntEnum StrEnum Flag IntFlag Generic Protocol ABC ABCMeta namedtuple NamedTuple TypedDict TYPE_CHECKING"
    " abstractmethod dataclass overload contextmanager chr bytearray memoryview".split()
)
BARRED = (
    ast.Global, ast.AsyncFunctionDef, ast.AsyncFor, ast.AsyncWith, ast.Await, ast.Div, ast.MatMult, ast.Import,
    ast.TryStar,
)


def package_files():
    """The paths of the package, from its folder on; caches are Python's own and never committed."""
    found = []
    for folder, below, files in os.walk(PACKAGE):
        below[:] = [name for name in below if name != "__pycache__"]
        found += [os.path.relpath(os.path.join(folder, name), PACKAGE) for name in files]
    return sorted(found)


def source(path):
    with open(os.path.join(PACKAGE, path), encoding="utf-8", newline="") as held:
        return held.read()


def docstrings(tree):
    """The nodes that are docstrings."""
    found = []
    for node in ast.walk(tree):
        if isinstance(node, (ast.Module, ast.ClassDef, ast.FunctionDef)) and ast.get_docstring(node) is not None:
            found.append(node.body[0].value)
    return found


def used_names(tree):
    """All names of all kinds in a file."""
    for node in ast.walk(tree):
        for field in ("id", "attr", "name", "arg", "asname"):
            name = getattr(node, field, None)
            if isinstance(name, str):
                yield name


class LanguageTest(unittest.TestCase):
    def setUp(self):
        self.trees = {path: ast.parse(source(path)) for path in package_files()}

    def test_only_plain_files(self):
        files = package_files()
        self.assertIn("__init__.py", files)
        for path in files:
            self.assertRegex(path, r"^(__init__|__main__|[a-z][a-z0-9_]*)\.py$")
            self.assertNotRegex(path, r"^(test|law_|conftest|site|usercustomize)")
            self.assertNotIn(path[:-3], PYTHON_NAMES | set(sys.stdlib_module_names) - {"__main__"})

    def test_characters_and_sizes(self):
        for path in package_files():
            text = source(path)
            self.assertRegex(text, r"\A[ -~\n]*\Z", path)
            self.assertTrue(text.endswith("\n"), path)
            lines = text.split("\n")[:-1]
            self.assertLessEqual(len(lines), 399, path)
            for line in lines:
                self.assertLessEqual(len(line), 120, path)
            for node in ast.walk(self.trees[path]):
                if isinstance(node, ast.FunctionDef):
                    self.assertLessEqual(node.end_lineno - node.lineno + 1, 40, (path, node.name))

    def test_imports(self):
        for path, tree in self.trees.items():
            for node in ast.walk(tree):
                if isinstance(node, ast.ImportFrom):
                    self.assertIn(node, tree.body, path)
                    self.assertEqual(node.level, 0, path)
                    for alias in node.names:
                        self.assertIsNone(alias.asname, path)
                        self.check_import(path, node.module, alias.name)

    def check_import(self, path, module, name):
        if module in LIBRARY:
            self.assertIn(name, LIBRARY[module], path)
            return
        self.assertTrue(module.startswith("matrixforms."), (path, module))
        defining = self.trees[module.removeprefix("matrixforms.") + ".py"]
        names = [getattr(node, "name", None) for node in defining.body]
        names += [node.targets[0].id for node in defining.body if isinstance(node, ast.Assign)]
        self.assertIn(name, names, (path, module))

    def test_module_level(self):
        for path, tree in self.trees.items():
            for node in tree.body:
                if isinstance(node, ast.Expr):
                    self.assertIsInstance(node.value, ast.Constant, path)
                    self.assertIsInstance(node.value.value, str, path)
                elif isinstance(node, ast.Assign):
                    self.assertEqual(len(node.targets), 1, path)
                    self.assertIsInstance(node.targets[0], ast.Name, path)
                else:
                    self.assertIsInstance(node, (ast.ImportFrom, ast.FunctionDef, ast.ClassDef), path)

    def test_decorators_and_special_methods(self):
        for path, tree in self.trees.items():
            for node in ast.walk(tree):
                if isinstance(node, (ast.FunctionDef, ast.ClassDef)):
                    for decorator in node.decorator_list:
                        self.assertRegex(ast.unparse(decorator), r"^(property|staticmethod|classmethod|\w+\.setter)$")
                    special = re.fullmatch(r"__(\w+)__", node.name)
                    if special:
                        self.assertIn(special[1], SPECIAL, path)
                    else:
                        self.assertRegex(node.name, r"^_?[A-Za-z]\w*$", path)
                    # Other names of methods and attributes are free of this rule.
                    inner = [arg.arg for arg in node.args.args] if isinstance(node, ast.FunctionDef) else []
                    for name in inner:
                        self.assertNotIn(name, PYTHON_NAMES, path)

    def test_names_and_builtins(self):
        for path, tree in self.trees.items():
            for name in used_names(tree):
                self.assertNotIn(name, NEVER, path)
                self.assertTrue(not name.startswith("__") or name[2:-2] in SPECIAL | {"class", "name"}, (path, name))
            for node in ast.walk(tree):
                if isinstance(node, ast.Name) and node.id in PYTHON_NAMES:
                    self.assertIn(node.id, BUILTINS, path)
                    self.assertIsInstance(node.ctx, ast.Load, path)

    def test_statements_and_values(self):
        for path, tree in self.trees.items():
            told = docstrings(tree)
            for node in ast.walk(tree):
                self.assertNotIsInstance(node, BARRED, path)
                if isinstance(node, ast.Constant):
                    self.assertNotIsInstance(node.value, (float, complex), path)
                    if isinstance(node.value, str) and node not in told:
                        self.assertNotIn("%", node.value, path)
                if isinstance(node, ast.ExceptHandler):
                    self.assertIsNotNone(node.type, path)


if __name__ == "__main__":
    unittest.main()
