"""Promises 51 and 52: `shortest` and `refuting`; and the columns with which they go through code."""

import itertools
import random
import time
import unittest

from lowsure.columns import first_columns
from lowsure.errors import InvalidCode, LowError, Mismatch, TooMany
from lowsure.library import Library
from lowsure.lists import count_points, greater_loss
from lowsure.machine import Code, Machine
from lowsure.making import make
from lowsure.rightness import wrong_at
from lowsure.runs import run
from lowsure.shortest import refuting, shortest
from lowsure.tables import Table
from lowsure.ways import code_depth
from tests.made import random_node, random_row
from tests.test_machine import WRONG_ROWS

ALL_ROWS = [(word, 0, one) for word in ("copy", "left", "right") for one in (0, 1)]
ALL_ROWS += [("right", 1, 0), ("right", 1, 1), ("copy", 1, 0), ("left", 1, 0), ("set", 0, 1), ("set", 1, -1)]
ALL_ROWS += [(word, 0, one, 1) for word in ("add", "sub", "mul") for one in (0, 1)]
ALL_ROWS += [("mul", 0, 0, 0), ("mul", 1, 0, 0), ("add", 1, 1, 0), ("sub", 1, 0, 1), ("store", 5, 0), ("load", 0, 5)]
RESULTS = ("x", "half x", "half half half x", "8 * x", "x ** 8", "x ** 4 - x", "0", "1", "-1", "2 * half x",
           "x - 2 * half x", "half ( x * x + x )", "half x * half x", "half ( 3 * x )", "x * half x", "x ** 3", "3 * x",
           "2 * half half x",
           "( if x mod 2 is 0 then x else 3 * x )", "7", "x over 3", "half ( x - 1 )")


def piece(result, inputs="x"):
    return Library.read(f"function f {inputs}\ngive {result.replace('-1', '( -1 )')}").piece("f")


def judged(machine, code, doer, bits):
    """Whether code is right, or None if it is left out."""
    try:
        return wrong_at(machine, code, doer, bits) is None
    except LowError:
        return None


class Checks(unittest.TestCase):

    def least_rows(self, machine, doer, bits, rows, most):
        """The least number of rows of right code, or None, by going through all codes."""
        for length in range(most + 1):
            for chosen in itertools.product(rows, repeat=length):
                if judged(machine, Code(chosen), doer, bits):
                    return length
        return None

    def check_shortest(self, machine, doer, bits, rows, most):
        """Compares with all codes; returns the number of rows."""
        found = shortest(machine, doer, bits, rows, most)
        least = self.least_rows(machine, doer, bits, rows, most)
        if least is None:
            self.assertIsNone(found)
            return None
        self.assertIsInstance(found, Code)
        self.assertEqual(len(found), least)
        self.assertTrue(set(found.rows) <= set(rows))
        self.assertTrue(judged(machine, found, doer, bits))
        return least

    def check_refuting(self, machine, doer, bits, rows, length):
        """Checks that all shorter code is refuted; returns the number of pairs."""
        found = refuting(machine, doer, bits, rows, length)
        if found is None:
            self.assertIsNotNone(self.least_rows(machine, doer, bits, rows, length - 1))
            return None
        self.assertIsInstance(found, tuple)
        for point, fills in found:
            self.assertEqual((type(point), type(fills), len(point)), (tuple, tuple, doer.inputs))
        wanted = [doer(point, bits) for point, fills in found]
        for shorter in range(length):
            for chosen in itertools.product(rows, repeat=shorter):
                code = Code(chosen)
                if judged(machine, code, doer, bits) is not None:
                    self.assertNotEqual([run(machine, code, *pair) % 2 ** bits for pair in found], wanted, chosen)
        return len(found)

    def check_error(self, error, fields, *arguments):
        """Checks what both raise; the last argument is the number of rows of `shortest`."""
        for call, number in ((shortest, arguments[-1]), (refuting, arguments[-1] + 1)):
            with self.assertRaises(error) as caught:
                call(*arguments[:-1], number)
            self.assertEqual(vars(caught.exception), fields)


class ColumnsTest(unittest.TestCase):

    def test_as_runs(self):
        for seed in range(150):
            source = random.Random(seed)
            machine = Machine(source.choice([4, 5, 16, 64]), source.randint(3, 8))
            rows = [random_row(source, machine.registers, 0) for _ in range(source.randint(0, 8))]
            rows = [row for row in rows if row[0] != "skip"]
            inputs = source.randint(1, 3)
            starts = [([source.randint(-10 ** 30, 10 ** 30) for _ in range(inputs)],
                       [source.randint(0, 1) for _ in range(source.randint(0, 4))]) for _ in range(5)]
            columns = first_columns(machine, inputs, starts)
            for at in range(len(rows) + 1):
                self.assertEqual(columns.column(0), [run(machine, Code(rows[:at]), *start) for start in starts])
                if at < len(rows):
                    columns = columns.behind(rows[at])


class ShortestTest(Checks):

    def test_by_hand(self):
        machine = Machine(16, 3)
        for result, rows in (("x", 0), ("2 * x", 1), ("half x", 1), ("x ** 4", 2), ("x ** 8", 3), ("half half x", 2),
                             ("half half half x", 3), ("x ** 16", None), ("x * half x", 2), ("1", 1), ("-1", 2),
                             ("x + 2 * half x", 3), ("-2 * x", 3), ("16 * x", None), ("x over 3", None)):
            found = shortest(machine, piece(result), 8, ALL_ROWS, 3)
            self.assertEqual(found if found is None else len(found), rows, result)
            if rows:
                self.assertIsNone(shortest(machine, piece(result), 8, ALL_ROWS, rows - 1))
                self.assertIsNone(wrong_at(machine, found, piece(result), 8))
        self.assertEqual(shortest(machine, piece("x"), 16, [], 3), Code(()))
        self.assertIsNone(shortest(machine, piece("y", "x y"), 2, [], 2))
        self.assertEqual(shortest(machine, piece("y", "x y"), 2, [("copy", 0, 1)], 2), Code([("copy", 0, 1)]))

    def test_compared_with_all_codes(self):
        found = []
        for seed in range(170):
            source = random.Random(seed)
            machine = Machine(source.choice([4, 4, 5, 6, 8, 16, 64]), source.choice([3, 4, 8]))
            doer = piece(source.choice(RESULTS))
            bits = source.choice([1, 2, 3, 4, min(12, machine.width)])
            rows = source.sample(ALL_ROWS, source.randint(0, 7))
            try:
                found.append(self.check_shortest(machine, doer, bits, rows, source.randint(0, 3)))
            except TooMany:
                continue
        for length in (None, 0, 1, 2, 3):
            self.assertIn(length, found)

    def test_made_doers(self):
        """The results of code made of the rows, and of random nodes; also tables and two inputs."""
        found = []
        for seed in range(120):
            source = random.Random(seed)
            machine = Machine(source.choice([6, 8, 10]), 3)
            inputs = source.choice([("x",), ("x", "y")])
            node = random_node(source, inputs, (), 2, "+-*hh")
            doer = Library.read(f"function f {' '.join(inputs)}\ngive {node!r}").piece("f")
            bits = source.randint(1, 3)
            rows = [random_row(source, 3, 0) for _ in range(source.randint(1, 6))]
            try:
                code = make(machine, doer, bits)
                rows = [row for row in [*rows, *source.sample(code.rows, min(2, len(code)))] if row[0] != "skip"]
                if source.random() < 0.5:
                    doer = Table.of(doer, bits)
                found.append(self.check_shortest(machine, doer, bits, rows, source.randint(1, 3)))
            except LowError:
                continue
        self.assertGreater(len([length for length in found if length]), 10)
        self.assertIn(None, found)

    def test_rows_twice_and_in_another_order(self):
        machine = Machine(8, 3)
        for result in ("half half x", "x ** 3", "x ** 5", "2 * half x"):
            rows = [("right", 0, 0), ("mul", 1, 0, 0), ("mul", 0, 0, 1), ("left", 0, 0)]
            lengths = set()
            for chosen in (rows, rows[::-1], tuple(rows), rows * 2, rows + rows[::-1], rows[2:] + rows[:2]):
                code = shortest(machine, piece(result), 4, chosen, 3)
                lengths.add(None if code is None else len(code))
                self.check_shortest(machine, piece(result), 4, chosen, 2)
            self.assertEqual(len(lengths), 1)

    def test_too_deep_codes_are_left_out(self):
        # A depth of d needs a width of 2 * d + 2.
        for width in range(4, 10):
            machine = Machine(width, 3)
            for depth in (1, 2, 3):
                doer = piece("half " * depth + "x")
                found = shortest(machine, doer, 1, [("copy", 1, 0), ("right", 0, 0)], 3)
                self.assertEqual(found is None, 2 * depth + 2 > width)
                self.assertEqual(refuting(machine, doer, 1, [("copy", 1, 0), ("right", 0, 0)], 4) is None, found is not None)
        # What is deep may be right all the same: the low bit of a half of a half of 3 is 0, with whatever bits put in.
        rows = [("set", 1, 3), ("right", 1, 1), ("mul", 0, 0, 1)]
        for width in (5, 6):
            found = shortest(Machine(width, 3), piece("half half 3"), 1, [*rows, ("right", 0, 1)], 3)
            self.assertEqual(len(found), 1)
            self.assertEqual(code_depth(Machine(width, 3), Code([*rows, ("right", 0, 1)])), 2)
        self.assertIsNone(judged(Machine(5, 3), Code([("right", 1, 0), ("right", 0, 1)]), piece("half half x"), 1))

    def test_fills(self):
        # Right with no bit put in, and wrong with one.
        machine = Machine(8, 3)
        rows = [("right", 0, 0), ("left", 0, 0)]
        self.assertIsNone(shortest(machine, piece("half x"), 8, rows, 3))
        self.assertEqual(len(shortest(machine, piece("half x"), 7, rows, 3)), 1)
        self.assertEqual(len(shortest(machine, piece("2 * half x"), 8, rows, 3)), 2)
        self.check_refuting(machine, piece("half x"), 8, rows, 4)

    def test_many_bits(self):
        machine = Machine(64, 3)
        for bits in (1, 20, 63, 64):
            least = 0 if bits == 1 else 1
            self.assertEqual(len(shortest(machine, piece("x ** 2"), bits, [("mul", 0, 0, 0)], 1)), least)
        self.assertEqual(len(shortest(machine, piece("x ** 4 + 262144"), 18, [("mul", 0, 0, 0)], 3)), 2)
        self.assertIsNone(shortest(machine, piece("x ** 4 + 131072"), 18, [("mul", 0, 0, 0)], 3))
        self.assertIsNone(shortest(Machine(64, 8), Table.of(piece("x + y", "x y"), 10), 10, [("sub", 0, 0, 1)], 0))

    def test_three_inputs(self):
        machine = Machine(8, 3)
        rows = [("mul", 0, 0, 1), ("add", 0, 0, 2), ("mul", 1, 0, 1), ("add", 0, 2, 1)]
        for result, length in (("x + z", 1), ("x * y + z", None), ("x", 0)):
            self.assertEqual(self.check_shortest(machine, piece(result, "x y z"), 1, rows, 1), length)
            self.check_refuting(machine, piece(result, "x y z"), 1, rows, 2)

    def test_asked_again(self):
        machine, doer = Machine(16, 3), piece("x ** 3")
        first = shortest(machine, doer, 6, ALL_ROWS, 3)
        told = refuting(machine, doer, 6, ALL_ROWS, len(first))
        shortest(machine, piece("half x"), 6, ALL_ROWS, 2)
        refuting(Machine(8, 4), piece("0"), 8, ALL_ROWS, 1)
        self.assertEqual(shortest(machine, doer, 6, ALL_ROWS, 3), first)
        self.assertEqual(refuting(machine, doer, 6, ALL_ROWS, len(first)), told)

    def test_arguments(self):
        machine, doer, rows = Machine(16, 3), piece("2 * x"), list(ALL_ROWS)
        found = shortest(most=3, rows=rows, bits=6, doer=doer, machine=machine)
        told = refuting(length=1, rows=rows, bits=6, doer=doer, machine=machine)
        rows.clear()
        self.assertEqual(len(found), 1)
        self.assertEqual((found, told), (shortest(machine, doer, 6, tuple(ALL_ROWS), 3),
                                         refuting(machine, doer, 6, tuple(ALL_ROWS), 1)))

    def test_time(self):
        self.assertEqual(len(ALL_ROWS), 24)
        rows = [row if row[1] == 0 else (row[0], 0, *row[2:]) for row in ALL_ROWS]
        for chosen in (ALL_ROWS, rows):
            for result in ("x ** 4 + 16 * x", "half half half half x", "x over 3", "( if x mod 8 is 7 then 1 else 0 )"):
                begin = time.perf_counter()
                self.assertIsNone(shortest(Machine(16, 3), piece(result), 8, chosen, 3))
                self.assertIsNotNone(refuting(Machine(16, 3), piece(result), 8, chosen, 4))
                self.assertLess(time.perf_counter() - begin, 3)


class RefutingTest(Checks):

    def test_by_hand(self):
        machine, rows = Machine(16, 3), [("left", 0, 0), ("right", 0, 0)]
        self.assertEqual(refuting(machine, piece("x + 1"), 8, rows, 0), ())
        self.assertEqual(refuting(machine, piece("x"), 8, rows, 0), ())
        for length in (1, 2, 3, 4):
            self.assertIsNone(refuting(machine, piece("x"), 8, rows, length))
            self.assertEqual(self.check_refuting(machine, piece("x + 4"), 8, [], length), 1)
            found = self.check_refuting(machine, piece("4 * x"), 8, rows, length)
            self.assertEqual(found is None, length > 2)
        self.assertEqual(self.check_refuting(machine, piece("4 * x"), 2, rows, 2) is None, False)
        self.assertEqual(self.check_refuting(machine, piece("x + 2"), 2, rows, 4), 1)
        self.assertGreater(self.check_refuting(machine, piece("x * x"), 2, rows, 4), 1)

    def test_compared_with_all_codes(self):
        refuted = 0
        for seed in range(120):
            source = random.Random(seed)
            machine = Machine(source.choice([4, 5, 6, 8, 16, 64]), source.choice([3, 8]))
            doer = piece(source.choice(RESULTS))
            bits = source.randint(1, 4)
            rows = source.sample(ALL_ROWS, source.randint(0, 6))
            try:
                if self.check_refuting(machine, doer, bits, rows, source.randint(0, 4)):
                    refuted += 1
            except TooMany:
                continue
        self.assertGreater(refuted, 50)


class ErrorsTest(Checks):

    def test_mismatch(self):
        rows = [("left", 0, 0)]
        self.check_error(Mismatch, {}, Machine(8, 3), piece("x"), 9, rows, 1)
        self.check_error(Mismatch, {}, Machine(64, 3), piece("x"), 65, rows, 0)
        self.check_error(Mismatch, {}, Machine(64, 3), Table.of(piece("x"), 5), 6, rows, 1)
        self.assertIsNone(shortest(Machine(8, 3), piece("x + 1"), 8, rows, 1))

    def test_rows(self):
        machine, fine = Machine(8, 3), ("left", 0, 0)
        for wrong in (["left", 0, 0], *WRONG_ROWS):
            self.check_error(InvalidCode, {"word": "row", "row": 0}, machine, piece("x"), 4, [wrong], 0)
            self.check_error(InvalidCode, {"word": "row", "row": 2}, machine, piece("x"), 4, [fine, fine, wrong, wrong], 1)
        for row in (("copy", 3, 0), ("add", 0, 0, 7), ("set", 3, 0), ("store", 0, 3), ("skip", 3, 2, 0, 0)):
            self.check_error(InvalidCode, {"word": "register", "row": 1}, machine, piece("x"), 4, [fine, row], 1)
        for row in (("skip", 0, 2, 0, 0), ("skip", 2, 1, 0, 1000), ("skip", 1, 64, 63, 1)):
            self.check_error(InvalidCode, {"word": "skip", "row": 1}, machine, piece("x"), 4, (fine, row, fine), 1)
        self.check_error(InvalidCode, {"word": "register", "row": 0}, machine, piece("x"), 4, [("skip", 3, 2, 0, 0)], 1)
        self.assertEqual(shortest(Machine(8, 4), piece("0"), 4, [("copy", 0, 3)], 1), Code([("copy", 0, 3)]))

    def test_first_row_that_cannot_stand(self):
        skip, register, wrong = ("skip", 0, 2, 0, 0), ("copy", 5, 0), ("copy", 8, 0)
        words = {skip: "skip", register: "register", wrong: "row"}
        for rows in itertools.permutations(words):
            self.check_error(InvalidCode, {"word": words[rows[0]], "row": 0}, Machine(8, 3), piece("x"), 4, rows, 2)

    def test_too_many(self):
        machine, rows = Machine(64, 3), [("left", 0, 0)]
        for most in range(4):
            for inputs, result in (("x", "x"), ("x", "half half x"), ("x y", "x + y"), ("x y", "half x"), ("x y z", "x")):
                doer = piece(result, inputs)
                for bits in (1, 2, 3, 8, 20, 64):
                    count = count_points(greater_loss(doer.loss, (most,) * doer.inputs), bits)
                    if count > 200:
                        self.check_error(TooMany, {"count": count}, machine, doer, bits, rows, most)
                    else:
                        self.assertIn(shortest(machine, doer, bits, rows, most), (None, Code(())))
        # As many as there may be.
        self.assertEqual(count_points((2,), 47), 200)
        self.assertEqual(shortest(machine, piece("x"), 47, rows, 2), Code(()))
        self.check_error(TooMany, {"count": count_points((2,), 49)}, machine, piece("x"), 49, rows, 2)
        # With no length and with one, there is only the code without rows.
        doer = piece("half x", "x y")
        self.assertEqual(count_points((1, 0), 9), 176)
        self.assertEqual(refuting(machine, doer, 9, rows, 0), ())
        self.assertEqual(len(refuting(machine, doer, 9, rows, 1)), 1)
        with self.assertRaises(TooMany):
            refuting(machine, doer, 9, rows, 2)

    def test_two_at_once(self):
        wrong, doer = [("skip", 0, 2, 0, 0)], piece("x", "x y z")
        self.check_error(Mismatch, {}, Machine(8, 3), doer, 9, wrong, 3)
        self.check_error(InvalidCode, {"word": "skip", "row": 0}, Machine(8, 3), doer, 8, wrong, 3)
        self.check_error(TooMany, {"count": count_points((3, 3, 3), 8)}, Machine(8, 3), doer, 8, [], 3)


if __name__ == "__main__":
    unittest.main()
