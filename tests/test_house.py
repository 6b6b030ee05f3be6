"""Promises 53 to 57: houses."""

import random
import unittest

from lowsure.errors import CannotMake, InvalidCode, InvalidLibrary, LowError, Mismatch, NotOdd, TooMany, UnknownName
from lowsure.house import House
from lowsure.library import Library
from lowsure.lists import count_points
from lowsure.machine import Machine
from lowsure.making import make
from lowsure.nodes import Call, Number
from lowsure.nodetexts import read_node
from lowsure.rightness import wrong_at
from lowsure.rows import Function, Let
from lowsure.runs import run
from tests.made import random_node


def function(name, result, inputs="x"):
    return Function(name, inputs.split(), (), read_node(result))


def house_of(width, *pairs):
    """A house with functions of one input, from pairs of names and results."""
    house = House(Machine(width, 4))
    for name, result in pairs:
        house.edit(function(name, result))
    return house


def kept(house):
    """All that can be seen of a house."""
    pieces = [(house.code(name), house.asked(name)) for name in house.names]
    return (house.library, house.names, pieces, house.log(), len(house))


class PlainHouse:
    """The promises once more: all that is kept is copied before each edit and ask."""

    def __init__(self, machine):
        self.machine, self.functions, self.bits, self.codes, self.log, self.earlier = machine, [], {}, {}, [], []

    def calls(self, name, other):
        """Whether a function is this one, or calls it, also through others."""
        if name == other:
            return True
        made = [each for each in self.functions if each.name == name][0]
        nodes = [made.result, *[node for row in made.rows for node in ([row.node] if isinstance(row, Let) else row.starts)]]
        return any([self.calls(part.name, other) for node in nodes for part in node.parts() if isinstance(part, Call)])

    def renew(self, functions, bits, name, alone):
        before = (self.functions, self.bits, self.codes)
        library = Library(functions)
        self.functions, told, codes = functions, [], dict(self.codes)
        try:
            for other in library.names:
                if other != name and (alone or not self.calls(other, name)):
                    continue
                piece = library.piece(other)
                wrong = wrong_at(self.machine, codes[other], piece, bits[other]) if other in codes else None
                if wrong:
                    told.append((other, *wrong))
                if wrong or other not in codes:
                    codes[other] = make(self.machine, piece, bits[other])
        except LowError:
            self.functions = before[0]
            raise
        self.earlier.append(before)
        self.bits, self.codes = bits, codes
        return tuple(told)

    def edit(self, made, bits=None):
        functions = [made if each.name == made.name else each for each in self.functions]
        if made.name not in [each.name for each in self.functions]:
            functions.append(made)
        if bits is None:
            bits = self.bits.get(made.name, min(8, self.machine.width))
        told = self.renew(functions, {**self.bits, made.name: bits}, made.name, False)
        self.log.append(("edit", made.name))
        return told

    def ask(self, name, bits):
        told = self.renew(self.functions, {**self.bits, name: bits}, name, True)
        self.log.append(("ask", name, bits))
        return told

    def undo(self):
        if not self.earlier:
            return False
        self.functions, self.bits, self.codes = self.earlier.pop()
        self.log.append(("undo",))
        return True


class Checks(unittest.TestCase):

    def check_error(self, error, fields, call):
        with self.assertRaises(error) as caught:
            call()
        self.assertEqual(vars(caught.exception), fields)

    def check_refused(self, house, error, fields, call):
        """Checks an error, and that nothing has changed; not even what an undo takes back."""
        before = kept(house)
        self.check_error(error, fields, call)
        self.assertEqual(kept(house), before)
        self.assertIs(house.library, before[0])
        if house.undo():
            self.assertEqual(house.log(), [*before[3], ("undo",)])
            self.assertNotEqual(kept(house)[:3], before[:3])

    def check_right(self, house):
        """Checks that all code is right to the bits that are asked, as far as that can be told."""
        for name in house.names:
            try:
                found = wrong_at(house.machine, house.code(name), house.library.piece(name), house.asked(name))
            except TooMany:
                continue
            self.assertIsNone(found, name)

    def check_told(self, told, house, codes):
        """Checks that old code is wrong at what is told, and that exactly this code is new; `codes` are the old ones."""
        self.assertIsInstance(told, tuple)
        for name, point, fills in told:
            piece, bits = house.library.piece(name), house.asked(name)
            self.assertEqual((type(point), type(fills), len(point)), (tuple, tuple, piece.inputs))
            self.assertNotEqual(run(house.machine, codes[name], point, fills) % 2 ** bits, piece(point, bits))
        names = [name for name, point, fills in told]
        self.assertEqual(names, [name for name in house.names if name in names])
        for name in house.names:
            if name in codes and name not in names:
                self.assertIs(house.code(name), codes[name])
            elif name in codes:
                self.assertNotEqual(house.code(name), codes[name])


class EditTest(Checks):

    def test_empty(self):
        house = House(machine=Machine(16, 4))
        self.assertEqual((house.library, house.names, len(house), house.log(), house.undo()), (None, (), 0, [], False))
        self.assertEqual(house.log(), [])

    def test_new_functions(self):
        for width, bits in ((4, 4), (7, 7), (8, 8), (9, 8), (64, 8)):
            house = House(Machine(width, 3))
            self.assertEqual(house.edit(function("f", "3 * x")), ())
            self.assertEqual((house.asked("f"), house.names, len(house)), (bits, ("f",), 1))
            self.assertEqual(house.code("f"), make(Machine(width, 3), house.library.piece("f"), bits))
        house = house_of(16, ("f", "x"), ("g", "f ( x ) + 1"), ("h", "half g ( x )"))
        self.assertEqual((house.names, house.library.names, len(house)), (("f", "g", "h"), ("f", "g", "h"), 3))
        self.assertEqual(house.library, Library([function("f", "x"), function("g", "f ( x ) + 1"),
                                                 function("h", "half g ( x )")]))
        self.assertEqual(house.edit(function("k", "x"), 3), ())
        self.assertEqual(house.asked("k"), 3)
        self.check_right(house)

    def test_bits_told_and_not(self):
        house = house_of(16, ("f", "half x"))
        first = house.code("f")
        # Not told: as before.
        self.assertEqual(house.edit(function("f", "half x + 256")), ())
        self.assertEqual((house.code("f"), house.asked("f")), (first, 8))
        self.assertIs(house.code("f"), first)
        # To 9 bits the code is wrong for the new meaning; to fewer it is right for both.
        codes = {"f": first}
        self.check_told(house.edit(function("f", "half x + 256"), 9), house, codes)
        self.assertEqual(house.asked("f"), 9)
        self.assertIsNot(house.code("f"), first)
        second = house.code("f")
        self.assertEqual(house.edit(function("f", "half x"), bits=8), ())
        self.assertIs(house.code("f"), second)
        told = house.edit(function("f", "half x + 128"))
        self.assertEqual([name for name, point, fills in told], ["f"])
        self.check_told(told, house, {"f": second})
        self.assertEqual((house.asked("f"), house.call("f", (7,))), (8, 131))

    def test_example(self):
        house = House(Machine(16, 4))
        self.assertEqual(house.edit(Function("f", ("x",), (), read_node("half x")), 4), ())
        self.assertEqual(house.call("f", (9,)), 4)
        self.assertEqual(house.edit(Function("f", ("x",), (), read_node("half x + 16"))), ())
        self.assertEqual(len(house.edit(Function("f", ("x",), (), read_node("half x + 4")))), 1)

    def test_callers(self):
        pairs = (("f", "x"), ("g", "f ( x ) * 16"), ("h", "x + 1"), ("k", "half half half half g ( x )"), ("m", "h ( x )"))
        house = house_of(16, *pairs)
        codes = {name: house.code(name) for name in house.names}
        told = house.edit(function("f", "x + 8"))
        # g is the same to 8 bits only if 16 * 8 is 0 there: it is 128. k has bits further up.
        self.assertEqual([name for name, point, fills in told], ["f", "g", "k"])
        self.check_told(told, house, codes)
        codes = {name: house.code(name) for name in house.names}
        told = house.edit(function("f", "x + 8 + 16"))
        # To 8 bits, g does not change now; k, which looks further up, does.
        self.assertEqual([name for name, point, fills in told], ["f", "k"])
        self.check_told(told, house, codes)
        codes = {name: house.code(name) for name in house.names}
        self.assertEqual(house.edit(function("f", "x + 24 + 256")), ())
        self.check_told((), house, codes)
        told = house.edit(function("g", "0"))
        self.assertEqual([name for name, point, fills in told], ["g", "k"])
        self.assertEqual(house.edit(function("f", "half x"))[0][0], "f")
        self.check_right(house)

    def test_calls_in_rows(self):
        house = house_of(16, ("f", "x"))
        house.edit(Function("g", ("x",), (Let("a", read_node("f ( x )")),), read_node("x")))
        house.edit(Function("h", ("x",), (Let("a", read_node("half f ( x )")),), read_node("a + g ( x )")))
        # What is computed for nothing needs no new code.
        self.assertEqual([told[0] for told in house.edit(function("f", "x + 2"))], ["f", "h"])
        self.check_right(house)

    def test_edited_functions_keep_their_place(self):
        house = house_of(16, ("f", "x"), ("g", "x"), ("h", "g ( x )"))
        house.edit(function("f", "x + 1"))
        self.assertEqual(house.names, ("f", "g", "h"))
        house.edit(function("g", "f ( x ) + 1"))
        self.assertEqual([told[0] for told in house.edit(function("f", "x"))], ["f", "g", "h"])

    def test_other_numbers_of_inputs(self):
        house = house_of(16, ("f", "x"), ("g", "2 * x"))
        code = house.code("f")
        self.assertEqual(house.edit(function("f", "x", "x y"), 2), ())
        self.assertIs(house.code("f"), code)
        self.assertEqual(house.edit(function("f", "x + 2 * y", "x y"), 2)[0][0], "f")
        self.assertEqual(house.call("f", (1, 1)), 3)

    def test_alike(self):
        for seed in range(30):
            answers = []
            for _ in range(2):
                source = random.Random(seed)
                house = House(Machine(12, 4))
                told = []
                for _ in range(5):
                    node = random_node(source, ("x",), [(name, 1) for name in house.names if name < "g"], 2, "+-*hcf")
                    try:
                        told.append(house.edit(Function(source.choice("fgh"), ("x",), (), node)))
                    except LowError as error:
                        told.append((type(error), vars(error)))
                answers.append((told, kept(house)))
            self.assertEqual(answers[0], answers[1])

    def test_arguments(self):
        house, made = House(Machine(16, 4)), function("f", "x + 1")
        self.assertEqual(house.edit(bits=5, function=made), ())
        self.assertEqual((house.asked(name="f"), house.code(name="f")), (5, house.code("f")))
        self.assertEqual(house.edit(function=made), ())
        self.assertEqual(house.asked("f"), 5)
        self.assertEqual(house.ask(bits=6, name="f"), ())
        self.assertEqual(house.call(fills=(1, 1), point=[62], name="f"), house.call("f", (62,)))
        self.assertEqual(house.tried(functions=[made]), ((),))


class ErrorsTest(Checks):

    def houses(self):
        """The same house, made anew each time."""
        return house_of(16, ("f", "half x"), ("g", "f ( x ) + 1"), ("h", "g ( x ) * 3"))

    def test_errors_of_libraries(self):
        for made, fields in ((function("F", "x"), ("name", 3, -1)), (function("f", "x", "x x"), ("inputs", 0, -1)),
                             (function("f", "y"), ("unknown", 0, 0)), (function("f", "f ( x )"), ("call", 0, 0)),
                             (function("f", "g ( x )"), ("call", 0, 0)), (function("f", "x", "x y"), ("call", 1, 0)),
                             (function("k", "g ( x , x )"), ("call", 3, 0))):
            house = self.houses()
            fields = dict(zip(("word", "function", "row"), fields))
            self.check_refused(house, InvalidLibrary, fields, lambda: house.edit(made))
        house = House(Machine(16, 4))
        self.check_refused(house, InvalidLibrary, {"word": "name", "function": 0, "row": -1},
                           lambda: house.edit(function("let", "x")))
        house = house_of(16, *[(name, "x") for name in "abcdefgh"])
        self.check_refused(house, InvalidLibrary, {"word": "count", "function": -1, "row": -1},
                           lambda: house.edit(function("i", "x")))
        house = self.houses()
        self.check_refused(house, NotOdd, {"name": "f", "point": (0,)}, lambda: house.edit(function("f", "3 over x")))
        # A function that calls it is no longer odd.
        house = house_of(16, ("f", "2 * x + 1"), ("g", "1 over f ( x )"))
        self.check_refused(house, NotOdd, {"name": "g", "point": (1,)}, lambda: house.edit(function("f", "x + 1")))

    def test_errors_of_wrong_at(self):
        house = self.houses()
        self.check_refused(house, Mismatch, {}, lambda: house.edit(function("f", "half x"), 17))
        house = self.houses()
        self.check_refused(house, Mismatch, {}, lambda: house.ask("g", 17))
        house = self.houses()
        self.check_refused(house, Mismatch, {}, lambda: house.ask("g", 65))
        # Three inputs: too many points, also for a caller.
        house = House(Machine(16, 4))
        house.edit(function("f", "half x + y * z", "x y z"), 15)
        house.edit(function("g", "f ( x , x , 3 )"))
        count = 2 * count_points((1, 0, 0), 15)
        self.assertGreater(count, 2000)
        self.check_refused(house, TooMany, {"count": count}, lambda: house.edit(function("f", "half x + y", "x y z")))
        house = House(Machine(16, 4))
        house.edit(function("f", "x"))
        house.edit(function("g", "f ( half x + y * z )", "x y z"), 15)
        before = kept(house)
        self.check_error(TooMany, {"count": count}, lambda: house.edit(function("f", "x + 0")))
        self.check_error(TooMany, {"count": 2 * count_points((1, 0, 0), 14)}, lambda: house.ask("g", 14))
        self.assertEqual(kept(house), before)
        # To few bits it can be told again.
        self.assertEqual(house.ask("g", 2), ())
        self.assertEqual(house.edit(function("f", "x + 0")), ())

    def test_errors_of_make(self):
        for result, bits, word in (("3 to x", None, "raised"), ("half half half x", 14, "width"),
                                   ("x ** 64 + x ** 64", None, "rows")):
            house = self.houses()
            self.check_refused(house, CannotMake, {"word": word}, lambda: house.edit(function("f", result), bits))
            house = self.houses()
            self.check_refused(house, CannotMake, {"word": word}, lambda: house.edit(function("k", result), bits))
        repeated = Library.read("function f x\nrepeat s = x by s * s + 1 times 17\ngive s").functions[0]
        house = self.houses()
        self.check_refused(house, CannotMake, {"word": "repeat"}, lambda: house.edit(repeated))
        house = self.houses()
        self.check_refused(house, CannotMake, {"word": "width"}, lambda: house.edit(function("k", "x"), 17))
        house = self.houses()
        self.check_refused(house, CannotMake, {"word": "width"}, lambda: house.ask("f", 16))

    def test_errors_of_callers(self):
        # The function itself could be made, but not the one that calls it.
        for result, word in (("half half x", "width"), ("x ** 33", "rows")):
            house = house_of(12, ("f", "x"), ("g", "half f ( f ( x ) )"))
            self.check_refused(house, CannotMake, {"word": word}, lambda: house.edit(function("f", result)))
        house = house_of(16, ("f", "x"), ("g", "3 * f ( x )"))
        self.check_refused(house, CannotMake, {"word": "raised"}, lambda: house.edit(function("f", "( 2 * x + 1 ) to x")))

    def test_no_errors_of_what_is_right(self):
        # Old code that is right is kept, although none could be made for the new meaning.
        house = house_of(16, ("f", "x"), ("g", "f ( x )"))
        codes = {name: house.code(name) for name in house.names}
        self.assertEqual(house.edit(function("f", "x + 0 * 3 to x")), ())
        self.assertEqual(house.edit(function("f", "x + 256 * ( half half half half half half half x )")), ())
        self.check_told((), house, codes)

    def test_errors_in_order(self):
        # The library before the bits; the function itself before the one that calls it.
        house = self.houses()
        self.check_refused(house, NotOdd, {"name": "f", "point": (0,)}, lambda: house.edit(function("f", "3 over x"), 17))
        house = self.houses()
        self.check_refused(house, Mismatch, {}, lambda: house.edit(function("f", "3 to x"), 17))
        house = house_of(12, ("f", "x"), ("g", "half f ( f ( x ) )"))
        self.check_refused(house, CannotMake, {"word": "raised"}, lambda: house.edit(function("f", "half half ( 3 to x )")))
        house = House(Machine(16, 4))
        house.edit(function("f", "x"))
        house.edit(function("g", "f ( half x + y * z )", "x y z"), 15)
        house.edit(function("h", "half f ( x )"))
        # g cannot be told at all, h not be made.
        before = kept(house)
        with self.assertRaises(TooMany):
            house.edit(function("f", "x + 256 * ( 3 to x )"))
        self.assertEqual(kept(house), before)
        house = House(Machine(16, 4))
        house.edit(function("f", "x"))
        house.edit(function("h", "half f ( x )"))
        house.edit(function("g", "f ( half x + y * z )", "x y z"), 15)
        self.check_error(CannotMake, {"word": "raised"}, lambda: house.edit(function("f", "x + 256 * ( 3 to x )")))

    def test_code_that_looks_too_deep(self):
        # It can be made, but not be told right or wrong: its loss is greater than 6.
        house = house_of(16, ("f", "half half half half half half half x"), ("g", "x"))
        self.check_refused(house, InvalidCode, {"word": "loss", "row": -1}, lambda: house.edit(function("f", "x")))
        house = house_of(16, ("g", "x"), ("f", "half half half half half half half x"))
        self.check_refused(house, InvalidCode, {"word": "loss", "row": -1}, lambda: house.ask("f", 1))
        house = house_of(16, ("g", "x"), ("f", "half half half half half half half g ( x )"))
        self.check_refused(house, InvalidCode, {"word": "loss", "row": -1}, lambda: house.edit(function("g", "2 * x")))

    def test_unknown_names(self):
        for house in (House(Machine(16, 4)), self.houses()):
            for name in ("k", "", "let", "F", "ff"):
                for call in (house.code, house.asked, lambda name: house.ask(name, 5), lambda name: house.ask(name, 99),
                             lambda name: house.call(name, (5,)), lambda name: house.call(name, (5,), (1,))):
                    self.check_error(UnknownName, {"name": name}, lambda: call(name))
        house = self.houses()
        self.check_refused(house, UnknownName, {"name": "k"}, lambda: house.ask("k", 5))


class AskTest(Checks):

    def test_fewer_and_more_bits(self):
        house = house_of(16, ("f", "x"), ("g", "half f ( x )"))
        house.edit(function("f", "x + 256"))
        codes = {name: house.code(name) for name in house.names}
        for bits in (1, 7, 8):
            self.assertEqual(house.ask("f", bits), ())
            self.assertEqual(house.asked("f"), bits)
            self.assertIs(house.code("f"), codes["f"])
        told = house.ask("f", 9)
        self.check_told(told, house, codes)
        self.assertEqual([name for name, point, fills in told], ["f"])
        second = house.code("f")
        for bits in (8, 16):
            self.assertEqual(house.ask("f", bits), ())
            self.assertIs(house.code("f"), second)
        self.assertEqual((house.asked("g"), house.call("f", (-1,))), (8, 255))
        self.assertEqual(house.log()[-1], ("ask", "f", 16))

    def test_callers_are_not_looked_at(self):
        house = House(Machine(16, 4))
        house.edit(function("f", "half x", "x"))
        house.edit(function("g", "f ( half x + y * z )", "x y z"), 14)
        self.assertEqual(house.ask("f", 15), ())
        with self.assertRaises(TooMany):
            house.edit(function("f", "half x"))


class CallTest(Checks):

    def test_low_bits(self):
        house = house_of(16, ("f", "half x"))
        for bits in (1, 5, 15):
            house.ask("f", bits)
            for x in (0, 9, -9, 2 ** 16 - 1, 10 ** 30, -10 ** 30):
                for fills in ((), (0,), (1,), [1, 1]):
                    self.assertEqual(house.call("f", (x,), fills), x // 2 % 2 ** bits)
                    self.assertEqual(house.call("f", [x], fills), x // 2 % 2 ** bits)

    def test_calls_change_nothing(self):
        house = house_of(16, ("f", "half x"))
        before = kept(house)
        house.call("f", (5,))
        house.code("f"), house.asked("f"), len(house), house.log()
        self.assertEqual(kept(house), before)


class UndoTest(Checks):

    def test_back_to_the_empty_house(self):
        house = House(Machine(16, 4))
        seen = [kept(house)[:3]]
        for change in (lambda: house.edit(function("f", "half x")), lambda: house.edit(function("g", "f ( x ) + 1"), 5),
                       lambda: house.ask("f", 12), lambda: house.edit(function("f", "half x + 1")),
                       lambda: house.ask("g", 5), lambda: house.edit(function("f", "half x + 1"))):
            change()
            seen.append(kept(house)[:3])
        codes = [{name: code for name, (code, bits) in zip(each[1], each[2])} for each in seen]
        for at in reversed(range(6)):
            self.assertIs(house.undo(), True)
            self.assertEqual(kept(house)[:3], seen[at])
            for name in house.names:
                self.assertIs(house.code(name), codes[at][name])
        self.assertIs(house.undo(), False)
        self.assertIs(house.undo(), False)
        self.assertEqual((house.library, house.names, len(house)), (None, (), 0))
        self.assertEqual(house.log(), [("edit", "f"), ("edit", "g"), ("ask", "f", 12), ("edit", "f"), ("ask", "g", 5),
                                       ("edit", "f"), *[("undo",)] * 6])
        self.check_error(UnknownName, {"name": "f"}, lambda: house.code("f"))
        house.edit(function("h", "x"))
        self.assertEqual((house.names, house.asked("h")), (("h",), 8))

    def test_undo_and_on(self):
        house = house_of(16, ("f", "x"))
        house.edit(function("f", "2 * x"))
        house.undo()
        self.assertEqual(house.call("f", (3,)), 3)
        house.edit(function("f", "3 * x"))
        self.assertEqual(house.call("f", (3,)), 9)
        self.assertTrue(house.undo())
        self.assertEqual(house.call("f", (3,)), 3)
        self.assertTrue(house.undo())
        self.assertEqual(len(house), 0)
        self.assertFalse(house.undo())

    def test_log_is_new_each_time(self):
        house = house_of(16, ("f", "x"))
        first = house.log()
        self.assertIsInstance(first, list)
        first.append("more")
        first[0] = None
        self.assertEqual(house.log(), [("edit", "f")])
        self.assertIsNot(house.log(), house.log())


class TriedTest(Checks):

    def test_edits_that_succeed(self):
        house = house_of(16, ("f", "x"), ("g", "half f ( x )"))
        before, codes = kept(house), {name: house.code(name) for name in house.names}
        functions = [function("f", "x + 1"), function("h", "g ( x )"), function("f", "x + 2"), function("f", "x + 258")]
        twin = house_of(16, ("f", "x"), ("g", "half f ( x )"))
        wanted = tuple([twin.edit(made) for made in functions])
        told = house.tried(functions)
        functions.clear()
        self.assertEqual(told, wanted)
        self.assertEqual([[name for name, point, fills in each] for each in told],
                         [["f", "g"], [], ["f", "g", "h"], ["g", "h"]])
        self.assertEqual(kept(house), before)
        for name in house.names:
            self.assertIs(house.code(name), codes[name])
        self.assertEqual(house.tried([]), ())
        self.assertEqual(house.tried(()), ())
        self.assertTrue(house.undo())
        self.assertEqual((house.names, house.log()), (("f",), [("edit", "f"), ("edit", "g"), ("undo",)]))

    def test_edit_that_fails(self):
        for wrong, error, fields in ((function("f", "y"), InvalidLibrary, {"word": "unknown", "function": 0, "row": 0}),
                                     (function("f", "3 to x"), CannotMake, {"word": "raised"}),
                                     (function("k", "1 over x"), NotOdd, {"name": "k", "point": (0,)})):
            house = house_of(16, ("f", "x"), ("g", "half f ( x )"))
            functions = [function("f", "x + 1"), wrong, function("f", "x")]
            self.check_refused(house, error, fields, lambda: house.tried(functions))

    def test_in_an_empty_house(self):
        house = House(Machine(16, 4))
        self.assertEqual(house.tried([function("f", "x"), function("f", "x + 1")])[1], (("f", (0,), ()),))
        self.assertEqual((house.library, house.names, len(house), house.log(), house.undo()), (None, (), 0, [], False))


class LedTest(Checks):

    def test_compared_with_a_plain_house(self):
        """Houses that are led about at random, with errors."""
        told = refused = undone = 0
        for seed in range(60):
            source = random.Random(seed)
            machine = Machine(source.choice([6, 10, 16, 24]), source.choice([3, 4]))
            house, plain = House(machine), PlainHouse(machine)
            for _ in range(14):
                kind = source.choice("eeeeeeau")
                before = {name: house.code(name) for name in house.names}
                if kind == "u":
                    self.assertEqual(house.undo(), plain.undo())
                    undone += 1
                    continue
                name = source.choice("abcd")
                if kind == "a" and name in house.names:
                    changes = [lambda one, name=name, bits=source.randint(1, machine.width + 1): one.ask(name, bits)]
                else:
                    earlier = [(made.name, len(made.inputs)) for made in plain.functions if made.name < name]
                    node = random_node(source, ("x",), earlier, 2, "+-*hhcff/r")
                    if source.random() < 0.3 and name in house.names:
                        old = [made for made in plain.functions if made.name == name][0]
                        node = old.result + Number(2 ** source.choice([2, 5, 8, 11]))
                    bits = source.choice([None, None, None, source.randint(1, machine.width)])
                    changes = [lambda one, made=Function(name, ("x",), (), node), bits=bits: one.edit(made, bits)]
                found = []
                for one in (house, plain):
                    try:
                        found.append(changes[0](one))
                    except LowError as error:
                        found.append((type(error), vars(error)))
                self.assertEqual(found[0], found[1], seed)
                if found[0] and isinstance(found[0][0], type):
                    refused += 1
                else:
                    told += len(found[0])
                    self.check_told(found[0], house, before)
                self.assertEqual((house.log(), house.names), (plain.log, tuple([made.name for made in plain.functions])))
                self.check_right(house)
                self.assertEqual([(house.asked(name), house.code(name)) for name in house.names],
                                 [(plain.bits[name], plain.codes[name]) for name in house.names])
        self.assertGreater(told, 100)
        self.assertGreater(refused, 40)
        self.assertGreater(undone, 40)


if __name__ == "__main__":
    unittest.main()
