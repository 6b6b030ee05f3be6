"""Promises 45, 46 and 47: `wrong_at`, `fixed_bits`, `fixed_pair` and `pruned`."""

import itertools
import random
import unittest

from lowsure.errors import CannotMake, InvalidCode, Mismatch, NotOdd, TooMany
from lowsure.library import Library
from lowsure.lists import count_points, greater_loss, points
from lowsure.machine import Code, Machine
from lowsure.making import make
from lowsure.rightness import fixed_bits, fixed_pair, pruned, wrong_at
from lowsure.rows import Function
from lowsure.runs import run
from lowsure.tables import Table
from lowsure.ways import code_loss
from tests.made import random_node, random_row, random_rows


def piece(result, inputs="x"):
    return Library.read(f"function f {inputs}\ngive {result}").piece("f")


def code_of(*rows):
    return Code.read("\n".join(rows))


def rights_in(code):
    return len([row for row in code.rows if row[0] == "right"])


def all_runs(machine, code, loss, bits):
    """The results at all points and fills that can matter: a dict of lists, for each point one for all fills."""
    ranges = [range(2 ** max(machine.width, number + bits)) for number in loss]
    fills = list(itertools.product((0, 1), repeat=rights_in(code)))
    return {point: [run(machine, code, point, fill) for fill in fills] for point in itertools.product(*ranges)}


def changed_code(source, machine, code):
    """Code with one row more or less, or another one; or as it is."""
    rows = list(code.rows)
    at = source.randrange(len(rows))
    kind = source.choice("less other more as")
    if kind == "l":
        return code.without(at)
    if kind == "o" and rows[at][0] != "skip":
        rows[at] = random_row(source, machine.registers, 0)
    elif kind == "m":
        rows.insert(len(rows), ("right", source.randrange(3), source.randrange(3)))
    return Code(rows)


class Checks(unittest.TestCase):

    def check_wrong(self, machine, code, doer, bits):
        """Checks what is shown by running it; returns whether there is anything."""
        found = wrong_at(machine, code, doer, bits)
        if found is None:
            return False
        point, fills = found
        self.assertEqual((type(found), type(point), type(fills)), (tuple, tuple, tuple))
        self.assertIn(point, list(points(greater_loss(doer.loss, code_loss(machine, code, doer.inputs)), bits)))
        self.assertIn(fills, [(), *[(0,) * at + (1,) for at in range(rights_in(code))]])
        self.assertNotEqual(run(machine, code, point, fills) % 2 ** bits, doer(point, bits))
        return True

    def check_fixed(self, machine, code, inputs):
        """Checks the pair by running both; returns the number."""
        number, found = fixed_bits(machine, code, inputs), fixed_pair(machine, code, inputs)
        if number == machine.width:
            self.assertIsNone(found)
            return number
        point, fills, other = found
        self.assertEqual(len(point), inputs)
        changed = run(machine, code, point, fills) ^ run(machine, code, point, other)
        self.assertEqual(changed % 2 ** (number + 1), 2 ** number)
        return number

    def check_error(self, error, fields, call):
        with self.assertRaises(error) as caught:
            call()
        self.assertEqual(vars(caught.exception), fields)


class WrongTest(Checks):

    def test_right_and_wrong(self):
        machine = Machine(16, 3)
        for rows, result, bits, wrong in (((), "x", 16, False), ((), "x + 1", 1, True), (("left 0 0",), "2 * x", 16, False),
                                          (("right 0 0",), "half x", 15, False), (("right 0 0",), "half x", 16, True),
                                          (("right 0 0", "right 0 0"), "half half x", 14, False),
                                          (("right 0 0", "right 0 0"), "half half x", 15, True),
                                          (("set 0 7",), "7 + 65536 * x", 16, False), (("set 0 7",), "7 + 32768 * x", 16, True),
                                          (("set 0 7",), "7 + 32768 * x", 15, False),
                                          (("right 1 0", "mul 0 1 1"), "( half x ) ** 2", 16, False),
                                          (("right 1 0", "mul 0 1 1"), "half x ** 2", 16, True),
                                          (("skip 0 2 1 1", "left 0 0"), "( if x mod 2 is 1 then x else 2 * x )", 16, False),
                                          (("skip 0 2 0 1", "left 0 0"), "( if x mod 2 is 1 then x else 2 * x )", 16, True)):
            self.assertEqual(self.check_wrong(machine, code_of(*rows) if rows else Code(()), piece(result), bits), wrong, rows)

    def test_more_inputs(self):
        machine = Machine(12, 4)
        self.assertFalse(self.check_wrong(machine, code_of("mul 0 0 1", "add 0 0 2"), piece("x * y + z", "x y z"), 3))
        self.assertTrue(self.check_wrong(machine, code_of("mul 0 0 1", "sub 0 0 2"), piece("x * y + z", "x y z"), 3))
        self.assertFalse(self.check_wrong(machine, code_of("mul 0 0 1", "sub 0 0 2"), piece("x * y + z", "x y z"), 1))
        self.assertFalse(self.check_wrong(machine, code_of("copy 0 2"), piece("z", "x y z"), 6))

    def test_wrong_at_one_point_alone(self):
        # All but one class of integers modulo 64 are right, and there only the highest bit is wrong.
        rows = ("skip 0 64 37 1", "skip 0 1 0 2", "set 1 128", "add 0 0 1")
        machine = Machine(16, 3)
        self.assertTrue(self.check_wrong(machine, code_of(*rows), piece("x"), 8))
        self.assertEqual(wrong_at(machine, code_of(*rows), piece("x"), 8)[0][0] % 64, 37)
        self.assertFalse(self.check_wrong(machine, code_of(*rows), piece("x"), 7))

    def test_wrong_with_a_fill_only(self):
        machine = Machine(10, 3)
        code = code_of("right 1 0", "right 2 0", "right 2 2", "set 2 0", "add 0 1 2")
        doer = Table.of(piece("half x"), 9)
        self.assertFalse(self.check_wrong(machine, code, doer, 9))
        code = code_of("right 1 0", "right 2 0", "right 2 2", "set 1 8", "mul 0 1 2")
        self.assertFalse(self.check_wrong(machine, code, piece("8 * half half x"), 10))
        code = code_of("right 1 0", "right 2 0", "right 2 2", "set 1 2", "mul 0 1 2")
        self.assertEqual(wrong_at(machine, code, piece("2 * half half x"), 10)[1][-1:], (1,))
        self.assertFalse(self.check_wrong(machine, code, piece("2 * half half x"), 9))

    def test_fills_of_later_rights(self):
        for rights in range(5):
            code = code_of(*["right 1 1"] * rights, "right 0 0", "right 2 2")
            self.assertTrue(self.check_wrong(Machine(16, 3), code, Table.of(piece("half x"), 16), 16))
            found = wrong_at(Machine(16, 3), code_of(*["right 1 1"] * rights, "right 2 0", "set 1 2", "mul 0 1 2"),
                             piece("x - ( if x mod 2 is 1 then 1 else 0 )"), 16)
            self.assertIsNone(found)
            # Only a fill can show this, and it comes behind all others.
            found = wrong_at(Machine(16, 3), code_of(*["right 1 1"] * rights, "set 2 0", "right 2 2", "add 0 0 2"),
                             piece("x"), 16)
            self.assertEqual(found, ((0,), (0,) * rights + (1,)))

    def test_made_code(self):
        """Right code with a row that is changed, compared with running it at all points and fills."""
        wrong = right = 0
        for seed in range(400):
            source = random.Random(seed)
            machine = Machine(source.choice([6, 7, 8]), source.choice([3, 4]))
            try:
                doer = Library([Function("f", ("x",), (), random_node(source, ("x",), (), 2, "+-*hhcp"))]).piece("f")
                bits = source.randint(1, machine.width)
                code = changed_code(source, machine, make(machine, doer, bits))
                found = self.check_wrong(machine, code, doer, bits)
            except (NotOdd, CannotMake, InvalidCode, TooMany):
                continue
            if found:
                wrong += 1
            elif rights_in(code) <= 3 and doer.loss[0] + bits <= 10:
                right += 1
                for point, results in all_runs(machine, code, doer.loss, bits).items():
                    self.assertEqual({result % 2 ** bits for result in results}, {doer(point, bits)}, seed)
        self.assertGreater(min(wrong, right), 25)

    def test_tables(self):
        table = Table((0,), 3, (0, 3, 2, 5))
        machine = Machine(8, 3)
        right = make(machine, piece("3 * x + 6 * x * ( x - 1 )"), 3)
        found = self.check_wrong(machine, right, table, 3)
        self.assertEqual(found, any([table((x,)) != run(machine, right, (x,)) % 8 for x in range(8)]))
        self.assertFalse(self.check_wrong(machine, Code(()), Table.of(piece("x + 8"), 3), 3))
        self.assertTrue(self.check_wrong(machine, Code(()), Table.of(piece("x + 4"), 3), 3))

    def test_errors(self):
        machine, f = Machine(8, 3), piece("x")
        other, deep, fine = code_of("set 0 1", "copy 3 0"), code_of(*["right 0 0"] * 4), Code(())
        for bits in (9, 64):
            self.check_error(Mismatch, {}, lambda: wrong_at(machine, fine, f, bits))
        self.check_error(Mismatch, {}, lambda: wrong_at(Machine(64, 3), fine, Table.of(f, 5), 6))
        self.check_error(InvalidCode, {"word": "register", "row": 1}, lambda: wrong_at(machine, other, f, 8))
        self.check_error(InvalidCode, {"word": "loss", "row": -1}, lambda: wrong_at(machine, deep, f, 8))
        self.assertFalse(self.check_wrong(machine, code_of(*["right 0 0"] * 3), piece("half half half x"), 5))
        # Depth alone, by a constant; and loss alone, on a wide machine.
        self.check_error(InvalidCode, {"word": "loss", "row": -1},
                         lambda: wrong_at(machine, code_of("skip 2 16 0 0"), f, 1))
        self.check_error(InvalidCode, {"word": "loss", "row": -1},
                         lambda: wrong_at(Machine(64, 3), code_of("right 1 0", "skip 1 64 0 0"), f, 1))
        self.assertFalse(self.check_wrong(Machine(64, 3), code_of("right 1 1", "skip 1 64 0 0"), f, 1))
        self.assertFalse(self.check_wrong(Machine(64, 3), code_of("skip 0 64 0 0"), f, 1))
        # The points of the list, times one more than the rows that say `right`.
        self.assertFalse(self.check_wrong(Machine(64, 3), code_of("skip 0 64 0 0", *["right 1 1"] * 14), f, 1))
        self.check_error(TooMany, {"count": 2048},
                         lambda: wrong_at(Machine(64, 3), code_of("skip 0 64 0 0", *["right 1 1"] * 15), f, 1))

    def test_depth_and_width(self):
        for width in (8, 9, 10, 11):
            for depth in (3, 4, 5):
                code = code_of(*["right 0 0"] * depth)
                doer = piece("half " * depth + "x")
                if 2 * depth + 2 > width:
                    self.check_error(InvalidCode, {"word": "loss", "row": -1},
                                     lambda: wrong_at(Machine(width, 3), code, doer, 1))
                else:
                    self.assertFalse(self.check_wrong(Machine(width, 3), code, doer, width - depth))

    def test_count(self):
        for rights in (999, 1000):
            code = code_of(*["right 1 1"] * rights)
            if rights == 1000:
                self.check_error(TooMany, {"count": 2002}, lambda: wrong_at(Machine(64, 3), code, piece("x"), 1))
            else:
                self.assertIsNone(wrong_at(Machine(64, 3), code, piece("x"), 1))
        for bits in (1, 3, 8):
            for rights in (0, 1, 5, 20):
                code = code_of("skip 0 64 0 0", *["right 1 1"] * rights)
                count = count_points((6,), bits) * (rights + 1)
                if count > 2000 and rights <= 31:
                    self.check_error(TooMany, {"count": count}, lambda: wrong_at(Machine(64, 3), code, piece("x"), bits))
                else:
                    self.assertIsNone(wrong_at(Machine(64, 3), code, piece("x"), bits))
        # It is the list for the greater one of both losses, input by input.
        doer = piece("( if x mod 16 is 0 then x else y )", "x y")
        code = code_of("skip 1 16 0 0")
        self.check_error(TooMany, {"count": count_points((4, 4), 2)}, lambda: wrong_at(Machine(16, 3), code, doer, 2))

    def test_errors_in_order(self):
        other_and_deep = code_of(*["right 0 0"] * 4, "copy 0 7")
        machine, f = Machine(8, 3), piece("x")
        self.check_error(Mismatch, {}, lambda: wrong_at(machine, other_and_deep, f, 9))
        self.check_error(InvalidCode, {"word": "register", "row": 4}, lambda: wrong_at(machine, other_and_deep, f, 8))
        many = code_of("right 1 0", "skip 1 64 0 0", *["right 2 2"] * 30)
        self.check_error(InvalidCode, {"word": "loss", "row": -1}, lambda: wrong_at(Machine(64, 3), many, f, 60))
        self.check_error(Mismatch, {}, lambda: wrong_at(Machine(64, 3), many, Table.of(f, 5), 60))

    def test_arguments(self):
        machine, code, doer = Machine(8, 3), Code(()), piece("x + 128")
        found = wrong_at(machine=machine, code=code, doer=doer, bits=8)
        self.assertEqual(found, wrong_at(machine, code, doer, 8))
        self.assertIsNone(wrong_at(machine, code, doer, 7))
        self.assertEqual(found, wrong_at(machine, code, doer, 8))


class FixedTest(Checks):

    def test_by_hand(self):
        machine = Machine(6, 3)
        for rows, number in ((("right 1 0", "mul 0 1 1"), 6), (("right 0 0",), 5), (("right 0 0", "right 0 0"), 4),
                             (("left 0 0",), 6), (("right 1 0", "right 1 0"), 6), (("right 0 0", "left 0 0"), 6),
                             (("right 0 0", "right 0 0", "left 0 0"), 5), (("right 1 1", "add 0 0 1"), 5),
                             (("right 1 1", "mul 0 0 1"), 5), (("right 1 1", "set 2 4", "mul 0 2 1"), 6)):
            self.assertEqual(self.check_fixed(machine, code_of(*rows), 1), number, rows)
        self.assertEqual(self.check_fixed(machine, Code(()), 3), 6)
        # Where it is tested, only one class of the inputs has bits of fills.
        self.assertEqual(self.check_fixed(Machine(6, 3), code_of("skip 0 4 1 1", "set 0 4", "right 0 0"), 1), 5)

    def test_made_code(self):
        less = 0
        for seed in range(150):
            source = random.Random(seed)
            machine = Machine(source.choice([6, 7, 8]), 3)
            code = Code(random_rows(source, 3, source.randint(1, 8)))
            inputs = source.choice([1, 1, 2])
            try:
                number = self.check_fixed(machine, code, inputs)
            except (InvalidCode, TooMany):
                continue
            if rights_in(code) > 3 or inputs * machine.width > 12:
                continue
            least = machine.width
            for results in all_runs(machine, code, (0,) * inputs, 1).values():
                for result in results:
                    while (result ^ results[0]) % 2 ** least:
                        least -= 1
            self.assertEqual(number, least, seed)
            less += 1 if number < machine.width else 0
        self.assertGreater(less, 10)

    def test_errors(self):
        for call in (fixed_bits, fixed_pair):
            self.check_error(InvalidCode, {"word": "register", "row": 0},
                             lambda: call(Machine(8, 3), code_of("right 4 0", *["right 0 0"] * 4), 1))
            self.check_error(InvalidCode, {"word": "loss", "row": -1},
                             lambda: call(Machine(8, 3), code_of(*["right 0 0"] * 4), 1))
            code = code_of("skip 0 32 0 0", "right 1 1")
            self.check_error(TooMany, {"count": count_points((5,), 64) * 2}, lambda: call(Machine(64, 3), code, 1))
            self.check_error(TooMany, {"count": count_points((0, 0), 64)}, lambda: call(Machine(64, 3), Code(()), 2))
        code = code_of("right 0 0")
        self.assertEqual([fixed_bits(machine=Machine(8, 3), code=code, inputs=1), fixed_bits(Machine(8, 3), code, 2)], [7, 7])
        self.assertEqual(fixed_pair(machine=Machine(8, 3), code=code, inputs=1), fixed_pair(Machine(8, 3), code, 1))


class PrunedTest(Checks):

    def plainly(self, machine, code, doer, bits):
        """The code that is left, as the promise tells it."""
        rows = len(code) + 1
        while len(code) < rows:
            rows = len(code)
            for at in range(rows - 1, -1, -1):
                shorter = code.without(at)
                try:
                    if wrong_at(machine, shorter, doer, bits) is None:
                        code = shorter
                except (InvalidCode, TooMany):
                    pass
        return code

    def test_by_hand(self):
        machine, double = Machine(8, 3), piece("2 * x")
        for rows, left in ((("left 0 0",), ("left 0 0",)), (("set 1 5", "left 0 0", "copy 2 0"), ("left 0 0",)),
                           (("copy 1 0", "add 0 0 1"), ("copy 1 0", "add 0 0 1")),
                           # Each of both can go, but not the two; and one that can go only behind the other.
                           (("copy 1 0", "copy 1 0", "add 0 0 1"), ("copy 1 0", "add 0 0 1")),
                           (("set 1 3", "set 2 1", "sub 1 1 2", "mul 0 0 1"), None),
                           (("set 2 0", "store 5 2", "load 1 5", "left 0 0"), ("left 0 0",)),
                           # Skips over rows that go.
                           (("skip 0 2 0 2", "left 1 1", "left 2 2", "left 0 0"), ("left 0 0",)),
                           (("skip 0 2 0 2", "left 0 0", "skip 0 1 0 1", "left 0 0"), None)):
            code = code_of(*rows)
            if wrong_at(machine, code, double, 8) is None:
                found = pruned(machine, code, double, 8)
                self.assertEqual(found, self.plainly(machine, code, double, 8))
                if left:
                    self.assertEqual(found, code_of(*left))

    def test_again_from_the_end(self):
        # The first round takes the first row away; only then the second one does nothing any more.
        machine, doer = Machine(8, 3), piece("x")
        for seed in range(60):
            source = random.Random(seed)
            code = Code(random_rows(source, 3, source.randint(1, 10)))
            doer = piece(source.choice(["x", "2 * x", "half x", "x * x", "0", "( if x mod 2 is 0 then x else 0 )"]))
            try:
                right = wrong_at(machine, code, doer, 2) is None
            except (InvalidCode, TooMany):
                continue
            if right:
                found = pruned(machine, code, doer, 2)
                self.assertEqual(found, self.plainly(machine, code, doer, 2))

    def test_made_code(self):
        machine = Machine(10, 3)
        for text in ("half ( x + 1 )", "x * x - x", "( if x mod 4 is 1 then 3 * x else x + 2 )", "3 * half x", "x ** 5 + 1"):
            code = make(machine, piece(text), 8)
            if len(code) <= 20:
                found = pruned(machine=machine, code=code, doer=piece(text), bits=8)
                self.assertEqual(found, self.plainly(machine, code, piece(text), 8))
                self.assertIsNone(wrong_at(machine, found, piece(text), 8))
                for at in range(len(found)):
                    self.assertFalse(self.is_right(machine, found.without(at), piece(text)), text)

    def is_right(self, machine, code, doer):
        try:
            return wrong_at(machine, code, doer, 8) is None
        except (InvalidCode, TooMany):
            return False

    def test_rows_without_which_there_is_an_error(self):
        # Without the first row, the code would test what is too deep; so the row stays.
        machine = Machine(16, 3)
        code = code_of("set 1 0", "skip 1 64 63 0")
        self.assertEqual(pruned(machine, code, piece("x"), 8), Code(()))
        code = code_of("right 2 0", "set 2 0", "right 2 2", "skip 2 64 63 1", "left 1 1", "right 0 0")
        found = pruned(machine, code, piece("half x"), 8)
        self.assertEqual(found, self.plainly(machine, code, piece("half x"), 8))

    def test_errors(self):
        machine, f = Machine(8, 3), piece("x")
        long = Code([("set", 1, 0)] * 21)
        self.assertEqual(pruned(machine, Code([("set", 1, 0)] * 20), f, 8), Code(()))
        self.check_error(Mismatch, {}, lambda: pruned(machine, long, f, 8))
        self.check_error(Mismatch, {}, lambda: pruned(machine, code_of("left 0 0"), f, 8))
        self.check_error(Mismatch, {}, lambda: pruned(machine, Code(()), f, 9))
        self.check_error(InvalidCode, {"word": "register", "row": 20},
                         lambda: pruned(machine, Code([("set", 1, 0)] * 20 + [("set", 5, 0)]), f, 8))
        self.check_error(InvalidCode, {"word": "loss", "row": -1},
                         lambda: pruned(machine, code_of(*["right 1 0"], *["right 1 1"] * 7, "add 0 0 1"), f, 8))
        many = code_of("skip 0 64 0 0", *["right 1 1"] * 19)
        self.check_error(TooMany, {"count": count_points((6,), 8) * 20}, lambda: pruned(Machine(64, 3), many, f, 8))


if __name__ == "__main__":
    unittest.main()
