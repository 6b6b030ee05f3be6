"""Promises 6, 7 and 8 over the whole program: what one module returns is passed on to the others.

All is compared by asking at far points.
"""

import random
import unittest

from lowsure.agreement import agree, where_agree
from lowsure.codetexts import show_code
from lowsure.deciding import decides, first_enough, unseen
from lowsure.desk import Desk
from lowsure.errors import CannotMake, InvalidCode, NotOdd, TooMany
from lowsure.house import House
from lowsure.library import Library
from lowsure.librarytexts import show_library
from lowsure.lists import count_points, points
from lowsure.machine import Code, Machine
from lowsure.making import make
from lowsure.needed import needed
from lowsure.nodetexts import read_node
from lowsure.rightness import fixed_bits, pruned, wrong_at
from lowsure.rows import Function
from lowsure.runs import run
from lowsure.shortest import refuting, shortest
from lowsure.steps import Step
from lowsure.tables import Table
from lowsure.tabletexts import function_of, learned
from lowsure.ways import code_loss
from tests.made import random_node, random_rows, random_step

FAR = (0, 1, -1, 7, -8, 2 ** 64 + 5, -2 ** 64 - 6, 10 ** 30 - 1, 1 - 10 ** 30, 31415926535897932384626433)


def piece(result, inputs="x"):
    return Library.read(f"function f {inputs}\ngive {result}").piece("f")


def alone(function):
    return Library([function]).piece(function.name)


class Checks(unittest.TestCase):

    def check_same(self, one, other, bits):
        """Two doers with one input: by `agree`, and at far points."""
        self.assertEqual(agree(one, other, bits), (bits, None))
        self.assertEqual([one((x,), bits) for x in FAR], [other((x,), bits) for x in FAR])


class StepsTest(Checks):

    def check_undone(self, step):
        """The function of the undoing, behind the step's own function and ahead of it."""
        there, back = function_of(step.tables[0], "there"), function_of((~step).tables[0], "back")
        library = Library([there, back, Function("one", ("x",), (), read_node("back ( there ( x ) )")),
                           Function("other", ("x",), (), read_node("there ( back ( x ) )"))])
        for name in ("one", "other"):
            self.check_same(library.piece(name), piece("x"), step.bits)
        self.assertEqual([library.piece("there")((x,), step.bits) for x in FAR], [step((x,))[0] for x in FAR])
        self.assertEqual([step((library.piece("back")((x,), step.bits),)) for x in FAR],
                         [(x % 2 ** step.bits,) for x in FAR])

    def test_undoing(self):
        for node, bits in (("5 * s + 3", 16), ("s + 1", 9), ("s ** 3 + 4 * s ** 2 + 2 * s + 1", 16), ("s + 2 * s * s", 12),
                           ("0 - s", 1), ("7 * s ** 5 + 6", 10)):
            step = Step.of(("s",), (read_node(node),), bits)
            if step.collision() is None:
                self.check_undone(step)
        self.check_undone(Step.of(("s",), (read_node("5 * s + 3"),), 16).often(10 ** 20))

    def test_made_steps(self):
        undone = 0
        for seed in range(120):
            source = random.Random(seed)
            step = Step.of(("s",), (random_step(source, ("s",)),), source.randint(1, 16))
            if step.collision() is None:
                self.check_undone(step)
                undone += 1
        self.assertGreater(undone, 20)

    def test_repeats(self):
        """A step done often, and a `Repeat` with the same step."""
        step = Step.of(("s",), (read_node("s * s + 3 * s + 1"),), 12)
        for times in (0, 1, 5, 100, 10 ** 18):
            text = f"function f x\nrepeat s = x by s * s + 3 * s + 1 times {times}\ngive s"
            self.check_same(Library.read(text).piece("f"), alone(function_of(step.often(times).tables[0], "k")), 12)


class CodeTest(Checks):

    def test_tables_of_code(self):
        """The table of code is learned from its list of points."""
        seen = 0
        for seed in range(150):
            source = random.Random(seed)
            machine = Machine(source.choice([8, 12, 16]), source.choice([3, 5]))
            code = Code(random_rows(source, 3, source.randint(1, 8)))
            try:
                loss, bits = code_loss(machine, code, 1), min(16, fixed_bits(machine, code, 1))
            except (InvalidCode, TooMany):
                continue
            if bits == 0:
                continue
            table = learned(lambda point: run(machine, code, point), loss, bits)
            self.assertEqual([table((x,)) for x in FAR], [run(machine, code, (x,), (1, 0, 1)) % 2 ** bits for x in FAR])
            self.assertIsNone(wrong_at(machine, code, table, bits))
            if loss[0] <= 2:
                self.assertIsNone(wrong_at(machine, code, alone(function_of(table, "k")), bits))
                seen += 1
        self.assertGreater(seen, 40)

    def test_code_for_tables(self):
        """Code is made for the function of a table of other code, on another machine."""
        made = 0
        for seed in range(150):
            source = random.Random(seed)
            try:
                doer = alone(Function("f", ("x",), (), random_node(source, ("x",), (), 3, "+-*hcp")))
                bits = source.randint(1, 8)
                first = make(Machine(20, 3), doer, bits)
            except (NotOdd, CannotMake):
                continue
            if doer.loss[0] > 2:
                continue
            table = learned(lambda point: run(Machine(20, 3), first, point), doer.loss, bits)
            self.check_same(table, doer, bits)
            found = alone(function_of(table, "k"))
            try:
                second = make(Machine(32, 6), found, bits)
            except CannotMake as error:
                self.assertEqual(error.word, "rows")
                continue
            made += 1
            for x in FAR:
                self.assertEqual(run(Machine(32, 6), second, (x,), (1, 1, 1)) % 2 ** bits, doer((x,), bits))
            self.assertIsNone(wrong_at(Machine(32, 6), second, doer, bits))
            self.assertEqual(Code.read(show_code(second)), second)
        self.assertGreater(made, 40)

    def test_shortest_and_pruned(self):
        machine, doer = Machine(16, 3), piece("x * x + x")
        code = make(machine, doer, 8)
        rows = list(dict.fromkeys(code.rows))
        found, left = shortest(machine, doer, 8, rows, 3), pruned(machine, code, doer, 8)
        self.assertIsNone(found)
        found = shortest(machine, doer, 8, [*rows, ("add", 0, 0, 1), ("copy", 1, 0)], 3)
        self.assertEqual((len(found), len(refuting(machine, doer, 8, rows, 3)) > 0), (3, True))
        for each in (found, left):
            table = learned(lambda point: run(machine, each, point), (0,), 8)
            self.check_same(table, doer, 8)


class PointsTest(Checks):

    def test_functions_that_points_do_not_tell_apart(self):
        for seed in range(40):
            source = random.Random(seed)
            loss, bits = (source.randint(0, 2),), source.randint(1, 10)
            count = count_points(loss, bits)
            asked = [(source.choice([source.randint(-20, 20), source.randint(-10 ** 30, 10 ** 30)]),)
                     for _ in range(source.choice([count - 1, count // 2, 3 * count]))]
            hidden = unseen(asked, loss, bits)
            if hidden is None:
                self.assertTrue(decides(asked, loss, bits))
                continue
            table = Table(loss, bits, [point[0] ** 3 + 5 for point in points(loss, bits)])
            one, other = alone(function_of(table, "k")), alone(function_of(table + hidden, "k"))
            self.assertEqual([one(point, bits) for point in asked], [other(point, bits) for point in asked])
            number, point = agree(one, other, bits)
            self.assertEqual((number, (one(point, bits) ^ other(point, bits))), (bits - 1, 2 ** (bits - 1)))
            for depth, residue in where_agree(one, other, bits):
                self.assertEqual(hidden((residue + 2 ** depth * 10 ** 9,)), 0)

    def test_points_that_are_enough(self):
        """Functions of a loss are compared at points that decide."""
        for seed in range(30):
            source = random.Random(seed)
            loss, bits = (source.randint(0, 2),), source.randint(1, 8)
            asked = [(source.randint(-10 ** 30, 10 ** 30),) for _ in range(400)]
            kept = first_enough(asked, loss, bits)
            self.assertEqual(len(kept), count_points(loss, bits))
            functions = [Table.of(piece(result), bits, loss) for result in
                         ("x", "x ** 3", "x ** 5", "x + 2 ** 7", "3 * x - 2 * x", "x ** 9", "5 * x ** 3 - 4 * x ** 3")]
            for one in functions:
                for other in functions:
                    same = [one(asked[at]) == other(asked[at]) for at in kept]
                    self.assertEqual(all(same), one == other)

    def test_list_of_two_inputs(self):
        found = Library.read("function f x y\ngive half ( x * y ) + ( if y mod 2 is 1 then x ** 3 else y )").piece("f")
        table = learned(lambda point: found(point, 4), found.loss, 4)
        for x in FAR:
            for y in FAR:
                self.assertEqual(table((x, y)), found((x, y), 4))
        self.assertEqual(needed(table, 4), needed(found, 4))


class HousesTest(Checks):

    def test_functions_of_tables_in_a_house(self):
        house = House(Machine(24, 4))
        for result in ("half ( x * x + x )", "( if x mod 2 is 0 then x else 3 * x )", "5 to half x"):
            table = Table.of(piece(result), 7)
            told = house.edit(function_of(table, "f"), 7)
            self.assertLessEqual(len(told), 1)
            self.assertEqual([house.call("f", (x,), (1, 0, 1)) for x in FAR], [table((x,)) for x in FAR])
            self.assertIsNone(wrong_at(house.machine, house.code("f"), table, 7))
        # The function that has the same values needs no new code.
        self.assertEqual(house.edit(function_of(table + Table.constant(0, 1, 7), "f")), ())
        self.assertEqual(len(house.edit(function_of(table + Table.constant(64, 1, 7), "f"))), 1)

    def test_a_house_led_from_a_desk(self):
        desk, house = Desk(), House(Machine(24, 4))
        desk.say("machine 24 4")
        for result in ("half x", "half x + 256", "x * half x", "half half ( x * x )"):
            function = function_of(Table.of(piece(result), 8), "f")
            new = len(house) == 0
            told = house.edit(function)
            answer = desk.say("edit " + show_library(Library([function])).replace("\n", " ; "))
            self.assertEqual(answer, "f" if told or new else "none")
            self.assertEqual(desk.say("code f").replace(" ; ", "\n"), show_code(house.code("f")))
            self.assertEqual([desk.say(f"call f {x}") for x in FAR[:5]], [str(house.call("f", (x,))) for x in FAR[:5]])


if __name__ == "__main__":
    unittest.main()
