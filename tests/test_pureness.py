"""What operators, `==`, len and repr run: they change nothing but lists of their own, and call nothing that is held."""

import ast
import unittest

from tests.test_language import BUILTINS, METHODS, trees

OPERATORS = set("""__eq__ __len__ __repr__ __str__ __contains__ __add__ __sub__ __mul__ __floordiv__ __neg__
    __invert__""".split())
CHANGING = set("append clear extend insert pop remove reverse setdefault sort update".split())
MAKING = {"list", "dict", "sorted"}


class Package:
    """All functions, methods and classes by their names, and the names of all attributes that are stored."""

    def __init__(self):
        self.functions, self.methods, self.classes, self.stored = {}, {}, {}, set()
        for _, tree in trees():
            for row in tree.body:
                if isinstance(row, ast.FunctionDef):
                    self.functions.setdefault(row.name, []).append(row)
                elif isinstance(row, ast.ClassDef):
                    self.classes[row.name] = row
                    for method in [inner for inner in row.body if isinstance(inner, ast.FunctionDef)]:
                        self.methods.setdefault(method.name, []).append(method)
            for node in ast.walk(tree):
                if isinstance(node, ast.Attribute) and isinstance(node.ctx, ast.Store):
                    self.stored.add(node.attr)

    def made(self, name):
        """The `__init__` of a class, or of a base class."""
        row = self.classes[name]
        own = [inner for inner in row.body if isinstance(inner, ast.FunctionDef) and inner.name == "__init__"]
        return own or [method for base in row.bases if base.id in self.classes for method in self.made(base.id)]

    def called(self, call):
        """The functions that a call may run, or None if it may run something that is held or handed."""
        if isinstance(call.func, ast.Name):
            name = call.func.id
            if name in self.functions:
                return self.functions[name]
            if name in self.classes:
                return self.made(name)
            return [] if name in BUILTINS or name == "cls" else None
        if not isinstance(call.func, ast.Attribute) or call.func.attr in self.stored:
            return None
        if call.func.attr in self.methods:
            return self.methods[call.func.attr]
        return [] if call.func.attr in METHODS else None


def is_new(value):
    """Whether a value is a new list or dict, in one of the forms that the language names."""
    if isinstance(value, ast.Call):
        return isinstance(value.func, ast.Name) and value.func.id in MAKING
    if isinstance(value, ast.Subscript):
        return isinstance(value.slice, ast.Slice)
    return isinstance(value, (ast.List, ast.ListComp, ast.Dict, ast.DictComp))


def own_lists(function):
    """The local variables that are only ever assigned new lists or dicts."""
    assigned = {arg.arg: [None] for arg in function.args.args}
    for node in ast.walk(function):
        if isinstance(node, ast.Assign):
            for target in node.targets:
                if isinstance(target, ast.Name):
                    assigned.setdefault(target.id, []).append(node.value)
                for inner in ast.walk(target):
                    if isinstance(target, ast.Tuple) and isinstance(inner, ast.Name):
                        assigned.setdefault(inner.id, []).append(None)
        elif isinstance(node, (ast.For, ast.comprehension)):
            for inner in ast.walk(node.target):
                if isinstance(inner, ast.Name):
                    assigned.setdefault(inner.id, []).append(None)
    return {name for name, values in assigned.items() if all(is_new(value) for value in values)}


def changed(node):
    """What a statement or call changes: nodes that have to be lists of one's own, or attributes of a new object."""
    if isinstance(node, ast.Call) and isinstance(node.func, ast.Attribute) and node.func.attr in CHANGING:
        return [node.func.value]
    if isinstance(node, (ast.Subscript, ast.Attribute)) and isinstance(node.ctx, (ast.Store, ast.Del)):
        return [node.value]
    return []


class PurenessTest(unittest.TestCase):

    def setUp(self):
        self.package = Package()

    def run_by_operators(self):
        waiting = [method for name in OPERATORS for method in self.package.methods.get(name, [])]
        found = []
        while waiting:
            function = waiting.pop()
            if function in found:
                continue
            found.append(function)
            for node in ast.walk(function):
                if isinstance(node, ast.Call):
                    further = self.package.called(node)
                    self.assertIsNotNone(further, (function.name, node.lineno, "calls what is held or handed"))
                    waiting.extend(further)
        return found

    def test_operators(self):
        found = self.run_by_operators()
        self.assertGreater(len(found), 20)
        for function in found:
            own = own_lists(function)
            for node in ast.walk(function):
                where = (function.name, getattr(node, "lineno", 0))
                self.assertNotIsInstance(node, (ast.Yield, ast.YieldFrom, ast.Lambda, ast.Nonlocal), where)
                self.assertTrue(node is function or not isinstance(node, ast.FunctionDef), where)
                if isinstance(node, ast.AugAssign):
                    self.assertIsInstance(node.op, ast.Add, where)
                    self.assertIsInstance(node.value, ast.Constant, where)
                    self.assertIsInstance(node.target, ast.Name, where)
                for place in changed(node):
                    self.assertIsInstance(place, ast.Name, where)
                    creating = function.name == "__init__" and isinstance(node, ast.Attribute) and place.id == "self"
                    self.assertTrue(creating or place.id in own, where)

    def test_returns(self):
        for name in OPERATORS:
            for method in self.package.methods.get(name, []):
                self.assertIsInstance(method.body[-1], ast.Return, (name, method.lineno))
                if name == "__len__":
                    self.assertEqual([node.value.func.id for node in ast.walk(method) if isinstance(node, ast.Return)],
                                     ["len"])


if __name__ == "__main__":
    unittest.main()
