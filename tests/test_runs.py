"""Promises 42 and 43: `run` and `trace`."""

import random
import unittest

from lowsure.errors import InvalidCode
from lowsure.machine import Code, Machine
from lowsure.runs import run, trace
from tests import plain
from tests.made import random_rows


class WordsTest(unittest.TestCase):

    def check(self, rows, inputs, result, fills=(), machine=Machine(8, 4)):
        self.assertEqual(run(machine, Code(rows), inputs, fills), result)

    def test_begin(self):
        self.check([], (5,), 5)
        self.check([], (-1, 7), 255)
        self.check([], [10 ** 30], 10 ** 30 % 256)
        self.check([("copy", 0, 1)], (5, -3), 253)
        self.check([("copy", 0, 2)], (5, 6, 300), 44)
        self.check([("copy", 0, 1)], (5,), 0)
        self.check([("copy", 0, 3)], (5, 6, 7), 0)
        self.check([("load", 0, 999)], (5,), 0)

    def test_words(self):
        self.check([("set", 0, 300)], (5,), 44)
        self.check([("set", 0, -1)], (5,), 255)
        self.check([("set", 0, 2 ** 64 - 1)], (5,), 255)
        self.check([("copy", 1, 0), ("set", 0, 1), ("copy", 0, 1)], (5,), 5)
        self.check([("add", 0, 0, 1)], (200, 100), 44)
        self.check([("add", 0, 0, 0)], (200,), 144)
        self.check([("sub", 0, 0, 1)], (5, 7), 254)
        self.check([("sub", 0, 1, 0)], (5, 7), 2)
        self.check([("mul", 0, 0, 1)], (20, 30), 88)
        self.check([("mul", 0, 0, 0)], (255,), 1)
        self.check([("left", 0, 0)], (200,), 144)
        self.check([("left", 0, 1)], (1, 3), 6)
        self.check([("right", 0, 0)], (201,), 100)
        self.check([("right", 0, 1)], (1, 255), 127)
        self.check([("store", 7, 0), ("set", 0, 0), ("load", 0, 7)], (9,), 9)
        self.check([("store", 7, 0), ("set", 0, 3), ("load", 1, 7), ("add", 0, 0, 1)], (9,), 12)
        self.check([("store", 0, 0), ("store", 0, 1), ("load", 0, 0)], (9, 4), 4)

    def test_words_of_4_and_64_bits(self):
        self.check([("mul", 0, 0, 1)], (7, 5), 3, (), Machine(4, 3))
        self.check([("right", 0, 0)], (7,), 11, (1,), Machine(4, 3))
        self.check([("mul", 0, 0, 1)], (3 ** 30, 7 ** 20), 3 ** 30 * 7 ** 20 % 2 ** 64, (), Machine(64, 8))
        self.check([("right", 7, 0), ("copy", 0, 7)], (5,), 2 ** 63 + 2, (1,), Machine(64, 8))
        self.check([("left", 0, 0)], (2 ** 63 + 1,), 2, (), Machine(64, 3))
        self.check([("set", 2, -2 ** 64 + 1), ("copy", 0, 2)], (5,), 1, (), Machine(64, 3))

    def test_fills(self):
        rows = [("right", 0, 0), ("right", 0, 0), ("right", 0, 0)]
        self.check(rows, (0,), 0)
        self.check(rows, (0,), 128 // 4, (1,))
        self.check(rows, (0,), 64, [0, 1])
        self.check(rows, (0,), 128, (0, 0, 1))
        self.check(rows, (255,), 31, (0, 0, 0))
        self.check(rows, (255,), 255, (1, 1, 1))
        self.check(rows, (0,), 128, (0, 0, 1, 1, 1, 1))
        # Only the rights that are done take a fill.
        skipping = [("skip", 0, 2, 1, 1), ("right", 1, 1), ("right", 1, 1), ("copy", 0, 1)]
        self.check(skipping, (0, 0), 64, (1, 0))
        self.check(skipping, (1, 0), 128, (1, 0))

    def test_skips(self):
        for modulus in (1, 2, 4, 8, 16, 32, 64):
            for rest in range(modulus):
                code = [("skip", 0, modulus, rest, 1), ("set", 1, 9), ("copy", 0, 1)]
                for x in (rest, rest + modulus, rest + 1, 200, -1):
                    self.check(code, (x, 4), 4 if x % modulus == rest else 9)
        self.check([("skip", 0, 2, 1, 0), ("set", 0, 8)], (1,), 8)
        self.check([("skip", 0, 2, 1, 1), ("set", 0, 8)], (1,), 1)
        # Skips that end at one row, one within another, and one over another.
        rows = [("skip", 0, 2, 1, 3), ("skip", 0, 4, 2, 1), ("set", 1, 5), ("left", 1, 1), ("add", 0, 0, 1)]
        for x, result in ((1, 8), (2, 16), (4, 14), (3, 10)):
            self.check(rows, (x, 7), result)

    def test_other_registers(self):
        for machine, row in ((Machine(8, 3), ("set", 3, 0)), (Machine(8, 7), ("set", 7, 0)), (Machine(8, 3), ("copy", 0, 3)),
                             (Machine(8, 3), ("add", 0, 1, 5)), (Machine(8, 3), ("sub", 0, 5, 1)),
                             (Machine(8, 3), ("mul", 5, 1, 1)), (Machine(8, 3), ("left", 3, 0)),
                             (Machine(8, 3), ("right", 0, 3)), (Machine(8, 3), ("load", 3, 0)),
                             (Machine(8, 3), ("store", 0, 3)), (Machine(8, 3), ("skip", 3, 2, 0, 0)),
                             (Machine(8, 3), ("store", 5, 4))):
            rows = [("skip", 0, 1, 0, 2), ("left", 0, 0), row, ("set", 0, 1), row]
            for call in (run, lambda *given: list(trace(*given))):
                with self.assertRaises(InvalidCode) as caught:
                    call(machine, Code(rows), (1,))
                self.assertEqual((caught.exception.word, caught.exception.row), ("register", 2))
        # Numbers that are no registers.
        rows = [("set", 2, 9), ("load", 2, 900), ("store", 7, 2), ("skip", 2, 64, 40, 4), *[("left", 1, 1)] * 5]
        self.assertEqual(run(Machine(8, 3), Code(rows), (1,)), 1)

    def test_arguments(self):
        machine, code = Machine(6, 3), Code([("right", 1, 0), ("mul", 0, 1, 1)])
        inputs, fills = [2], [1]
        self.assertEqual(run(machine=machine, code=code, inputs=inputs, fills=fills), 1)
        self.assertEqual(list(trace(machine=machine, code=code, inputs=inputs, fills=fills)),
                         [(0, (2, 33, 0), 1), (1, (1, 33, 0), 1)])
        self.assertEqual((inputs, fills), ([2], [1]))
        self.assertEqual([run(machine, code, (2,)), run(machine, code, (4,)), run(machine, code, (2,))], [1, 4, 1])
        self.assertEqual(list(trace(machine, code, (2,))), [(0, (2, 1, 0), 1), (1, (1, 1, 0), 1)])


class TraceTest(unittest.TestCase):

    def test_rows_that_are_done(self):
        code = Code([("skip", 0, 2, 1, 2), ("right", 1, 0), ("set", 2, 7), ("right", 0, 0), ("store", 5, 0),
                     ("skip", 0, 1, 0, 0), ("load", 1, 5)])
        self.assertEqual(list(trace(Machine(5, 3), code, (6,), (1, 1))),
                         [(0, (6, 0, 0), 0), (1, (6, 19, 0), 1), (2, (6, 19, 7), 1), (3, (19, 19, 7), 2),
                          (4, (19, 19, 7), 2), (5, (19, 19, 7), 2), (6, (19, 19, 7), 2)])
        self.assertEqual(list(trace(Machine(5, 3), code, (7,), (1, 1))),
                         [(0, (7, 0, 0), 0), (3, (19, 0, 0), 1), (4, (19, 0, 0), 1), (5, (19, 0, 0), 1), (6, (19, 19, 0), 1)])
        self.assertEqual(list(trace(Machine(5, 3), Code([]), (7,))), [])
        self.assertEqual([row[0] for row in trace(Machine(5, 3), Code([("skip", 0, 1, 0, 1), ("left", 0, 0)]), (7,))], [0])

    def test_left_and_begun_again(self):
        code = Code([("left", 0, 0)] * 900)
        left = iter(trace(Machine(16, 3), code, (1,)))
        self.assertEqual([next(left), next(left)], [(0, (2, 0, 0), 0), (1, (4, 0, 0), 0)])
        self.assertEqual(len(list(trace(Machine(16, 3), code, (1,)))), 900)
        self.assertEqual(next(left), (2, (8, 0, 0), 0))

    def test_made_code(self):
        """Code of any rows, compared with a plain second account."""
        for seed in range(400):
            source = random.Random(seed)
            machine = Machine(source.choice([4, 5, 8, 16, 64]), source.choice([3, 4, 8]))
            code = Code(random_rows(source, machine.registers, source.randint(0, 30)))
            inputs = [source.randint(-10 ** 30, 10 ** 30) for _ in range(source.randint(1, 3))]
            fills = [source.randint(0, 1) for _ in range(source.choice([0, 0, 1, 5, 40]))]
            expected = plain.done_rows(machine, code.rows, inputs, fills)
            self.assertEqual(list(trace(machine, code, inputs, fills)), expected, seed)
            end = expected[-1][1][0] if expected else inputs[0] % 2 ** machine.width
            self.assertEqual(run(machine, code, inputs, tuple(fills)), end)


if __name__ == "__main__":
    unittest.main()
