"""The interface of the document: names, where they are defined, their parameters, and what objects keep.

Promise 2: each call gives the same by position and by parameter names in another order.
"""

import importlib
import inspect
import unittest

from lowsure.agreement import agree, solutions, where_agree
from lowsure.codetexts import show_code
from lowsure.deciding import decides, first_enough, unseen
from lowsure.desk import Desk
from lowsure.errors import LowError, UnknownName
from lowsure.house import House
from lowsure.library import Library
from lowsure.librarytexts import show_library
from lowsure.lists import count_points, count_vectors, points, twos, vectors
from lowsure.machine import Code, Machine
from lowsure.making import make
from lowsure.measures import cost, depth_of, need_bits
from lowsure.needed import needed, needed_pair, sure, sure_pair
from lowsure.nodes import Add, Call, Choose, Half, Multiply, Name, Node, Number, Over, Power, Raised, Subtract
from lowsure.nodetexts import read_node, show_node
from lowsure.rightness import fixed_bits, fixed_pair, pruned, wrong_at
from lowsure.rows import Function, Let, Repeat
from lowsure.runs import run, trace
from lowsure.shortest import refuting, shortest
from lowsure.steps import Step
from lowsure.tables import Table, count_tables, known_bits
from lowsure.tabletexts import function_of, learned
from lowsure.ways import code_depth, code_loss

FUNCTIONS = """
nodetexts show_node(node) read_node(text)
librarytexts show_library(library)
lists twos(n) vectors(count,bits) count_vectors(count,bits) points(loss,bits) count_points(loss,bits)
tables count_tables(loss,bits) known_bits(loss,bits)
tabletexts function_of(table,name) learned(ask,loss,bits)
agreement agree(one,other,bits=None) where_agree(one,other,bits) solutions(doer,value,bits)
deciding decides(points,loss,bits) unseen(points,loss,bits) first_enough(points,loss,bits)
needed needed(doer,bits) needed_pair(doer,bits,at) sure(doer,widths,bits=None) sure_pair(doer,widths,bits=None)
codetexts show_code(code)
ways code_loss(machine,code,inputs) code_depth(machine,code)
runs run(machine,code,inputs,fills=()) trace(machine,code,inputs,fills=())
rightness wrong_at(machine,code,doer,bits) fixed_bits(machine,code,inputs) fixed_pair(machine,code,inputs)
rightness pruned(machine,code,doer,bits)
making make(machine,piece,bits)
measures need_bits(piece,bits) depth_of(piece) cost(piece)
shortest shortest(machine,doer,bits,rows,most) refuting(machine,doer,bits,rows,length)
"""

# The class, its constructor's parameters, and the methods that it defines itself.
CLASSES = """
errors LowError
errors InvalidText(at)
errors InvalidNode()
errors InvalidLibrary(word,function,row)
errors NotOdd(name,point)
errors TooMany(count)
errors Mismatch()
errors NoTable(at)
errors NotOneToOne(bits,state,other)
errors InvalidCode(word,row)
errors CannotMake(word)
errors InvalidRow()
errors UnknownName(name)
nodes Node __add__(other) __sub__(other) __mul__(other) __floordiv__(other) __neg__() __eq__(other) __len__() __repr__()
nodes Node parts() named() replaced(name,other)
nodes Number(value)
nodes Name(name)
nodes Add(one,other)
nodes Subtract(one,other)
nodes Multiply(one,other)
nodes Half(inner)
nodes Over(top,bottom)
nodes Power(base,times)
nodes Raised(base,exponent)
nodes Choose(tested,modulus,rest,yes,no)
nodes Call(name,arguments)
rows Let(name,node) __eq__(other)
rows Repeat(names,starts,steps,times) __eq__(other)
rows Function(name,inputs,rows,result) __eq__(other)
library Library(functions) read(text) piece(name) edited(function) __len__() __contains__(x) __eq__(other)
library Piece __call__(point,bits=64) __eq__(other)
tables Table(loss,bits,entries) of(doer,bits,loss=None) constant(value,inputs,bits) half() least_loss()
tables Table __call__(point,bits=None) __add__(other) __sub__(other) __mul__(other) __neg__() __eq__(other)
steps Step(tables) of(names,nodes,bits) often(n) rounds(state,count) collision() period() late() __call__(state)
steps Step __mul__(other) __invert__() __eq__(other)
machine Machine(width,registers) __eq__(other)
machine Code(rows) read(text) without(at) __len__() __eq__(other)
house House(machine) code(name) asked(name) edit(function,bits=None) ask(name,bits) call(name,point,fills=())
house House tried(functions) undo() log() __len__()
desk Desk() say(row) __len__()
"""

LIBRARY = Library.read("function sq x\ngive half ( x * x + x )\nfunction two x y\nlet a = sq ( x )\ngive a + 3 * y\n"
                       "function f x\nrepeat s = x by 3 * s + 1 times 5\ngive s\nfunction zero x\ngive 0\n"
                       "function twice x\ngive 2 * x")
SQ, TWO, F, ZERO, TWICE = [LIBRARY.piece(name) for name in LIBRARY.names]
TABLE = Table.of(SQ, 5)
STEP = Step.of(("s",), (read_node("5 * s + 3"),), 6)
PAIR = Step.of(("s", "t"), (read_node("t"), read_node("s + t")), 3)
MACHINE = Machine(16, 4)
CODE = Code.read("right 1 0\nmul 0 1 1")
LEFT = Code.read("set 2 5\nleft 0 0")
ROWS = [("copy", 1, 0), ("mul", 0, 0, 1), ("add", 0, 0, 1)]
NODE = read_node("a * b + half a")


def house():
    found = House(MACHINE)
    found.edit(Function("f", ("x",), (), read_node("half x")))
    return found


# Calls with all parameters, and with those that have no default.
CALLS = [
    (show_node, {"node": NODE}), (read_node, {"text": "a + b"}), (show_library, {"library": LIBRARY}), (twos, {"n": 99}),
    (vectors, {"count": 2, "bits": 5}), (count_vectors, {"count": 2, "bits": 5}), (points, {"loss": (1, 0), "bits": 3}),
    (count_points, {"loss": [1, 0], "bits": 3}), (count_tables, {"loss": (1,), "bits": 3}),
    (known_bits, {"loss": (1,), "bits": 5}), (function_of, {"table": TABLE, "name": "k"}),
    (learned, {"ask": lambda point: 3 * point[0], "loss": (0,), "bits": 4}), (agree, {"one": SQ, "other": F}),
    (agree, {"one": SQ, "other": F, "bits": 3}), (where_agree, {"one": SQ, "other": F, "bits": 3}),
    (solutions, {"doer": SQ, "value": 3, "bits": 4}), (decides, {"points": [(0,), (1,)], "loss": (0,), "bits": 2}),
    (unseen, {"points": [(0,), (1,)], "loss": (0,), "bits": 3}),
    (first_enough, {"points": [(0,), (0,), (1,)], "loss": (0,), "bits": 1}), (needed, {"doer": TWO, "bits": 4}),
    (needed_pair, {"doer": TWO, "bits": 4, "at": 1}), (sure, {"doer": TWO, "widths": (5, 3)}),
    (sure, {"doer": TWO, "widths": (5, 3), "bits": 2}), (sure_pair, {"doer": TWO, "widths": (5, 3)}),
    (sure_pair, {"doer": TWO, "widths": (5, 3), "bits": 9}), (show_code, {"code": CODE}),
    (code_loss, {"machine": MACHINE, "code": CODE, "inputs": 2}), (code_depth, {"machine": MACHINE, "code": CODE}),
    (run, {"machine": MACHINE, "code": CODE, "inputs": (9,)}),
    (run, {"machine": MACHINE, "code": CODE, "inputs": (9,), "fills": (1,)}),
    (trace, {"machine": MACHINE, "code": CODE, "inputs": (9,)}),
    (trace, {"machine": MACHINE, "code": CODE, "inputs": (9,), "fills": (1,)}),
    (wrong_at, {"machine": MACHINE, "code": CODE, "doer": SQ, "bits": 7}),
    (fixed_bits, {"machine": MACHINE, "code": CODE, "inputs": 2}),
    (fixed_pair, {"machine": MACHINE, "code": CODE, "inputs": 1}),
    (pruned, {"machine": MACHINE, "code": LEFT, "doer": Table.of(TWICE, 9), "bits": 7}),
    (make, {"machine": MACHINE, "piece": SQ, "bits": 7}), (need_bits, {"piece": SQ, "bits": 7}), (depth_of, {"piece": SQ}),
    (cost, {"piece": SQ}), (shortest, {"machine": MACHINE, "doer": SQ, "bits": 4, "rows": ROWS, "most": 2}),
    (refuting, {"machine": MACHINE, "doer": SQ, "bits": 4, "rows": ROWS, "length": 3}),
    (Number, {"value": 5}), (Name, {"name": "a"}), (Add, {"one": NODE, "other": Number(3)}),
    (Subtract, {"one": NODE, "other": Number(3)}), (Multiply, {"one": NODE, "other": Number(3)}), (Half, {"inner": NODE}),
    (Over, {"top": NODE, "bottom": Number(3)}), (Power, {"base": NODE, "times": 7}),
    (Raised, {"base": NODE, "exponent": Number(3)}),
    (Choose, {"tested": NODE, "modulus": 4, "rest": 2, "yes": Number(3), "no": Name("a")}),
    (Call, {"name": "f", "arguments": [NODE, Number(3)]}), (NODE.replaced, {"name": "a", "other": Number(3)}),
    (Let, {"name": "a", "node": NODE}),
    (Repeat, {"names": ["s"], "starts": [NODE], "steps": [Name("s")], "times": 3}),
    (Function, {"name": "f", "inputs": ["x"], "rows": [Let("a", NODE)], "result": Name("a")}),
    (Library, {"functions": LIBRARY.functions}), (Library.read, {"text": "function f x\ngive x"}),
    (LIBRARY.piece, {"name": "sq"}), (LIBRARY.edited, {"function": Function("zero", ("x",), (), Number(1))}),
    (SQ, {"point": (5,)}), (SQ, {"point": (5,), "bits": 3}),
    (Table, {"loss": (0,), "bits": 3, "entries": (0, 3, 2, 5)}), (Table.of, {"doer": SQ, "bits": 5}),
    (Table.of, {"doer": SQ, "bits": 5, "loss": (2,)}), (Table.constant, {"value": 5, "inputs": 2, "bits": 3}),
    (TABLE, {"point": (5,)}), (TABLE, {"point": (5,), "bits": 3}), (Step, {"tables": STEP.tables}),
    (Step.of, {"names": ("s",), "nodes": (read_node("s + 1"),), "bits": 6}), (STEP.often, {"n": -5}),
    (STEP.rounds, {"state": (3,), "count": 5}), (STEP, {"state": (3,)}), (PAIR, {"state": [3, 4]}),
    (Machine, {"width": 16, "registers": 4}), (Code, {"rows": ROWS}), (Code.read, {"text": "left 0 0"}),
    (CODE.without, {"at": 1}),
    (lambda **more: house().edit(**more), {"function": Function("f", ("x",), (), Number(3))}),
    (lambda **more: house().edit(**more), {"function": Function("f", ("x",), (), Number(3)), "bits": 3}),
    (lambda **more: house().ask(**more), {"name": "f", "bits": 9}), (lambda **more: house().code(**more), {"name": "f"}),
    (lambda **more: house().asked(**more), {"name": "f"}),
    (lambda **more: house().call(**more), {"name": "f", "point": (9,)}),
    (lambda **more: house().call(**more), {"name": "f", "point": (9,), "fills": (1,)}),
    (lambda **more: house().tried(**more), {"functions": [Function("f", ("x",), (), Number(3))]}),
    (lambda **more: House(**more).names, {"machine": MACHINE}), (lambda **more: Desk().say(**more), {"row": "machine 8 3"}),
]

# What `CALLS` cannot call by position, in a lambda.
METHODS = {"edit": House.edit, "ask": House.ask, "code": House.code, "asked": House.asked, "call": House.call,
           "tried": House.tried}


def told(value):
    """A value that can be compared: the items of iterations."""
    return list(value) if hasattr(value, "__next__") else value


def entries(text):
    """Of each row the module, and what stands behind it: names, each with its parameters or None."""
    for row in text.strip().split("\n"):
        module, *words = row.split(" ")
        pairs = [word[:-1].split("(", 1) if "(" in word else [word, None] for word in words]
        yield importlib.import_module("lowsure." + module), pairs


class InterfaceTest(unittest.TestCase):

    def check_parameters(self, called, text, skipped):
        found = []
        for parameter in list(inspect.signature(called).parameters.values())[skipped:]:
            self.assertEqual(parameter.kind, parameter.POSITIONAL_OR_KEYWORD)
            default = "" if parameter.default is parameter.empty else f"={parameter.default!r}"
            found.append(parameter.name + default)
        self.assertEqual(",".join(found), text, called)

    def test_functions(self):
        for module, pairs in entries(FUNCTIONS):
            for name, parameters in pairs:
                function = vars(module)[name]
                self.assertEqual((inspect.isfunction(function), function.__module__), (True, module.__name__))
                self.check_parameters(function, parameters, 0)

    def test_classes(self):
        for module, pairs in entries(CLASSES):
            name, parameters = pairs[0]
            found = vars(module)[name]
            self.assertEqual((inspect.isclass(found), found.__module__), (True, module.__name__))
            if parameters:
                self.check_parameters(found.__init__, parameters, 1)
            elif parameters == "":
                found()
            for method, own in pairs[1:]:
                self.assertIn(method, vars(found), name)
                whole = vars(found)[method]
                self.check_parameters(whole.__func__ if isinstance(whole, classmethod) else whole, own, 1)
                self.assertEqual(isinstance(whole, classmethod), method in ("read", "of", "constant"))

    def test_nodes_are_nodes(self):
        for one in (Number, Name, Add, Subtract, Multiply, Half, Over, Power, Raised, Choose, Call):
            self.assertTrue(issubclass(one, Node))

    def test_attributes(self):
        for one, names in ((LIBRARY, "functions names"), (SQ, "library name inputs loss most"),
                           (TABLE, "loss bits entries inputs most"), (STEP, "tables bits states"),
                           (MACHINE, "width registers"), (CODE, "rows"), (House(MACHINE), "library names"),
                           (house(), "library names")):
            for name in names.split():
                self.assertIn(name, vars(one))
        self.assertEqual((SQ.library is LIBRARY, SQ.name, SQ.inputs, SQ.loss, SQ.most), (True, "sq", 1, (1,), 64))
        self.assertEqual((TABLE.loss, TABLE.bits, TABLE.inputs, TABLE.most), ((1,), 5, 1, 5))
        self.assertEqual((STEP.bits, STEP.states, PAIR.states, len(PAIR.tables)), (6, 1, 2, 2))

    def test_called_by_names(self):
        called = set()
        for call, arguments in CALLS:
            forwards, backwards = dict(arguments), dict(reversed(arguments.items()))
            by_name = told(call(**backwards))
            if getattr(call, "__name__", "") != "<lambda>":
                self.compare(by_name, told(call(*arguments.values())), call)
            self.compare(by_name, told(call(**forwards)), call)
            called.add(getattr(call, "__name__", "").strip("<>"))
        for module, pairs in entries(FUNCTIONS):
            self.assertLessEqual({name for name, parameters in pairs}, called)

    def test_methods_of_houses(self):
        for name, arguments in (("edit", (Function("f", ("x",), (), Number(3)), 3)), ("ask", ("f", 9)), ("code", ("f",)),
                                ("asked", ("f",)), ("call", ("f", (9,), (1,))), ("tried", ([],))):
            parameters = list(inspect.signature(METHODS[name]).parameters)[1:]
            one, other = house(), house()
            by_position = METHODS[name](one, *arguments)
            self.assertEqual(by_position, METHODS[name](other, **dict(reversed(list(zip(parameters, arguments))))))
            self.assertEqual(one.log(), other.log())
        self.assertEqual(Desk().say("machine 8 3"), Desk().say(row="machine 8 3"))

    def compare(self, one, other, call):
        """Compares two values; those without an `==` of their own are compared by what they keep."""
        self.assertEqual(type(one), type(other), call)
        self.assertEqual(one, other, call)

    def test_errors_by_names(self):
        for module, pairs in entries(CLASSES):
            if module.__name__ != "lowsure.errors" or pairs[0][1] is None:
                continue
            name, parameters = pairs[0]
            names = parameters.split(",") if parameters else []
            values = {each: ["any", at, None] for at, each in enumerate(names)}
            error = vars(module)[name]
            one, other = error(*values.values()), error(**dict(reversed(values.items())))
            self.assertEqual((vars(one), vars(other)), (values, values))
            self.assertTrue(isinstance(one, UnknownName if name == "UnknownName" else LowError))
            self.assertEqual(error.__bases__, (KeyError if name == "UnknownName" else LowError,))


if __name__ == "__main__":
    unittest.main()
