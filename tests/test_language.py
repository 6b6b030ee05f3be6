"""The form of the package: those rules of the language that a look at the syntax can tell."""

import ast
import builtins
import re
import unittest
from pathlib import Path

PACKAGE = Path(__file__).resolve().parent.parent / "lowsure"
FILES = sorted(PACKAGE.rglob("*.py"))
# Not the _ that an interactive interpreter, or a doctest, leaves there.
BUILTINS = set(dir(builtins)) - {"_"}
USED_BUILTINS = set("""len range enumerate zip min max sum abs sorted reversed int str bool list tuple dict set isinstance
    ord repr any all divmod Exception ValueError TypeError KeyError classmethod staticmethod property iter next
    NotImplemented super""".split())
METHODS = set("""append clear copy count endswith extend find get index insert isalnum isalpha isdigit islower isspace
    isupper items join keys ljust lower lstrip partition pop remove replace reverse rfind rjust rpartition rsplit rstrip
    setdefault split splitlines startswith strip update upper values zfill bit_length""".split())
NO_ATTRIBUTES = set("""items keys values pop update append clear extend insert remove reverse setdefault sort args encode
    decode hex fromhex format mro register elements open input law real imag numerator denominator""".split())
SPECIAL = set("""__init__ __eq__ __repr__ __str__ __len__ __call__ __contains__ __add__ __sub__ __mul__ __floordiv__
    __neg__ __invert__""".split())
NO_WORDS = set("""typing typing_extensions enum Enum IntEnum StrEnum Flag IntFlag Generic Protocol ABC ABCMeta namedtuple
    NamedTuple TypedDict TYPE_CHECKING abstractmethod""".split())
NO_STATEMENTS = (ast.Global, ast.AsyncFunctionDef, ast.AsyncFor, ast.AsyncWith, ast.Await, ast.GeneratorExp, ast.AnnAssign,
                 ast.NamedExpr, ast.Match)
GENERATOR_CONSUMERS = {"list", "tuple", "sorted", "enumerate", "zip", "dict"}


def tree_of(path):
    return ast.parse(path.read_text())


def trees():
    return [(path, tree_of(path)) for path in FILES]


def functions_of(tree):
    return [node for node in ast.walk(tree) if isinstance(node, (ast.FunctionDef, ast.Lambda))]


def bound_names(function):
    """The parameters and local variables of a function, without those of nested functions."""
    given = function.args
    names = [arg.arg for arg in [*given.posonlyargs, *given.args, *given.kwonlyargs, given.vararg, given.kwarg] if arg]
    body = function.body if isinstance(function.body, list) else [function.body]
    for node in [node for row in body for node in ast.walk(row)]:
        if isinstance(node, ast.Name) and isinstance(node.ctx, ast.Store):
            names.append(node.id)
        elif isinstance(node, ast.FunctionDef):
            names.append(node.name)
        elif isinstance(node, ast.ExceptHandler) and node.name:
            names.append(node.name)
    return names


def is_generator(function):
    return isinstance(function, ast.FunctionDef) and any(isinstance(node, (ast.Yield, ast.YieldFrom))
                                                         for node in ast.walk(function))


def imports_of(tree):
    return [node for node in tree.body if isinstance(node, ast.ImportFrom)]


class LanguageTest(unittest.TestCase):

    def test_files(self):
        self.assertEqual([path.name for path in PACKAGE.iterdir() if path.name != "__pycache__"
                          and not re.fullmatch("[a-z_]+[.]py", path.name)], [])
        for path in FILES:
            lines = path.read_text().split("\n")
            self.assertLessEqual(len(lines) - 1, 399, path)
            for line in lines:
                self.assertLessEqual(len(line), 120, (path, line))
                self.assertTrue(all(" " <= letter <= "~" for letter in line), (path, line))

    def test_module_level(self):
        for path, tree in trees():
            tables = []
            for at, row in enumerate(tree.body):
                if at == 0 and isinstance(row, ast.Expr) and isinstance(row.value, ast.Constant):
                    continue
                self.assertIsInstance(row, (ast.ImportFrom, ast.FunctionDef, ast.ClassDef, ast.Assign))
                if isinstance(row, ast.Assign):
                    self.assertEqual(len(row.targets), 1)
                    self.assertIsInstance(row.targets[0], ast.Name)
                    self.assertFalse(any(isinstance(node, ast.Call) for node in ast.walk(row)))
                    tables.append(row.targets[0].id)
            self.assertEqual(len(tables), len(set(tables)))

    def test_imports(self):
        first = {}
        for path, tree in trees():
            self.assertFalse(any(isinstance(node, ast.Import) for node in ast.walk(tree)))
            inner = [node for node in ast.walk(tree) if isinstance(node, ast.ImportFrom)]
            self.assertEqual(inner, imports_of(tree))
            for row in inner:
                self.assertTrue(row.module.startswith("lowsure."), row.module)
                self.assertEqual([alias.asname for alias in row.names], [None] * len(row.names))
                source = tree_of(PACKAGE / (row.module[len("lowsure."):] + ".py"))
                defined = {node.name for node in source.body if isinstance(node, (ast.FunctionDef, ast.ClassDef))}
                defined |= {node.targets[0].id for node in source.body if isinstance(node, ast.Assign)}
                self.assertLessEqual({alias.name for alias in row.names}, defined)
                used = {node.id for node in ast.walk(tree) if isinstance(node, ast.Name)}
                self.assertLessEqual({alias.name for alias in row.names}, used, "imported, but not used")
            first["lowsure." + path.stem] = {row.module for row in inner}
        reached = {name: set(others) for name, others in first.items()}
        for _ in first:
            for name in reached:
                reached[name] |= {further for other in reached[name] for further in first[other]}
        self.assertEqual([name for name in reached if name in reached[name]], [], "imports in a circle")

    def test_functions(self):
        for path, tree in trees():
            for function in functions_of(tree):
                if isinstance(function, ast.Lambda):
                    continue
                self.assertLessEqual(function.end_lineno - function.lineno + 1, 40, function.name)
                for decorator in function.decorator_list:
                    self.assertIn(decorator.id, ("classmethod", "staticmethod", "property"))

    def test_statements(self):
        for path, tree in trees():
            for node in ast.walk(tree):
                self.assertNotIsInstance(node, NO_STATEMENTS, getattr(node, "lineno", 0))
                if isinstance(node, ast.Constant):
                    self.assertNotIsInstance(node.value, (float, complex))
                    if isinstance(node.value, str):
                        self.assertNotIn("%", node.value)
                if isinstance(node, ast.BinOp):
                    self.assertNotIsInstance(node.op, (ast.Div, ast.MatMult))
                    if isinstance(node.op, ast.Pow):
                        self.assertIsInstance(node.right, ast.Constant)
                if isinstance(node, ast.Compare) and isinstance(node.ops[0], (ast.Is, ast.IsNot)):
                    self.assertIsInstance(node.comparators[0], ast.Constant)
                if isinstance(node, ast.Set) or isinstance(node, ast.SetComp):
                    self.fail("sets are not needed here")
                if isinstance(node, ast.ExceptHandler):
                    caught = node.type.elts if isinstance(node.type, ast.Tuple) else [node.type]
                    for name in caught:
                        self.assertNotIn(name.id, BUILTINS)

    def test_builtins(self):
        for path, tree in trees():
            names = {node.id for node in ast.walk(tree) if isinstance(node, ast.Name)}
            self.assertLessEqual(names & BUILTINS, USED_BUILTINS)

    def test_words(self):
        for path in FILES:
            text = path.read_text()
            code = re.sub('(?s)""".*?"""|#[^\n]*', "", text)
            self.assertEqual(set(re.findall("[A-Za-z_]+", code)) & (NO_WORDS | {"type"}), set(), path)
            for word in ("dataclass", "overload", "contextmanager"):
                self.assertNotIn(word, code)
            self.assertNotIn("_wall", text)

    def test_names(self):
        for path, tree in trees():
            fixed = {alias.name for row in imports_of(tree) for alias in row.names}
            fixed |= {node.name for node in tree.body if isinstance(node, ast.ClassDef)}
            for function in functions_of(tree):
                names = bound_names(function)
                self.assertEqual(set(names) & fixed, set())
                self.assertEqual(set(names) & BUILTINS, set())
                for name in names:
                    self.assertRegex(name, "^(_|_?[a-z][a-z0-9_]*)$")

    def test_classes(self):
        for path, tree in trees():
            for made in [node for node in tree.body if isinstance(node, ast.ClassDef)]:
                methods = [row.name for row in made.body if isinstance(row, ast.FunctionDef)]
                self.assertEqual(len(methods), len(set(methods)), made.name)
                for name in methods:
                    self.assertTrue(name in SPECIAL if name.startswith("__") else name not in BUILTINS, name)
                for row in made.body:
                    if isinstance(row, ast.Assign):
                        self.assertIsInstance(row.value, ast.Constant, "class values are plain")

    def test_attributes(self):
        methods, assigned, called, values = set(), set(), set(), set()
        for path, tree in trees():
            for node in ast.walk(tree):
                if isinstance(node, ast.ClassDef):
                    methods |= {row.name for row in node.body if isinstance(row, ast.FunctionDef)}
                    values |= {row.targets[0].id for row in node.body if isinstance(row, ast.Assign)}
                if isinstance(node, ast.Attribute) and isinstance(node.ctx, ast.Store):
                    assigned.add(node.attr)
                if isinstance(node, ast.Call) and isinstance(node.func, ast.Attribute):
                    called.add(node.func.attr)
        self.assertEqual(methods & assigned, set(), "methods and attributes of one name")
        self.assertEqual((assigned | methods | values) & NO_ATTRIBUTES, set())
        self.assertEqual(called - methods - METHODS, set())

    def test_generators(self):
        named, others = set(), []
        for path, tree in trees():
            for function in functions_of(tree):
                if is_generator(function):
                    named.add(function.name)
                elif isinstance(function, ast.FunctionDef):
                    others.append(function.name)
        self.assertEqual(named & set(others), set())
        for path, tree in trees():
            held = set()
            for node in ast.walk(tree):
                if isinstance(node, (ast.For, ast.comprehension)):
                    held.add(node.iter)
                elif isinstance(node, ast.YieldFrom):
                    held.add(node.value)
                elif isinstance(node, ast.Call) and isinstance(node.func, ast.Name):
                    if node.func.id in GENERATOR_CONSUMERS:
                        held |= set(node.args)
            for node in ast.walk(tree):
                if isinstance(node, ast.Call):
                    name = getattr(node.func, "attr", getattr(node.func, "id", ""))
                    self.assertTrue(name not in named or node in held, (path, node.lineno))


if __name__ == "__main__":
    unittest.main()
