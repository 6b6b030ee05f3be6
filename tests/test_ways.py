"""Promise 44: `code_loss` and `code_depth`."""

import random
import time
import unittest

from lowsure.errors import InvalidCode
from lowsure.machine import Code, Machine
from lowsure.ways import code_depth, code_loss
from tests import plain
from tests.made import random_rows

MACHINE = Machine(16, 4)


class WaysTest(unittest.TestCase):

    def check(self, rows, loss, depth, inputs=2):
        code = Code(rows)
        self.assertEqual(code_loss(MACHINE, code, inputs), loss)
        self.assertEqual(code_depth(MACHINE, code), depth)
        self.assertEqual(plain.looked_at(rows, inputs), (loss, depth))

    def test_without_skips(self):
        self.check([], (0, 0), 0)
        self.check([("right", 0, 0)], (1, 0), 1)
        self.check([("right", 0, 1)], (0, 1), 1)
        self.check([("right", 1, 1), ("right", 1, 1)], (0, 0), 0)
        self.check([("right", 1, 1), ("right", 1, 1), ("add", 0, 0, 1)], (0, 2), 2)
        self.check([("right", 1, 1), ("mul", 2, 0, 1), ("right", 0, 2)], (1, 2), 2)
        self.check([("right", 1, 0), ("sub", 0, 0, 1), ("left", 0, 0)], (1, 0), 1)
        self.check([("right", 0, 0), ("right", 0, 0), ("copy", 0, 1)], (0, 0), 0)
        self.check([("right", 0, 0), ("set", 0, 4)], (0, 0), 0)
        self.check([("set", 0, 4), ("right", 0, 0), ("right", 0, 0)], (0, 0), 2)
        self.check([("right", 0, 3), ("right", 0, 0)], (0, 0), 2)
        self.check([("right", 0, 2)], (0, 0, 1), 1, 3)

    def test_slots(self):
        self.check([("right", 2, 1), ("store", 999, 2), ("load", 0, 999)], (0, 1), 1)
        self.check([("right", 2, 1), ("store", 9, 2), ("store", 9, 0), ("load", 0, 9)], (0, 0), 0)
        self.check([("right", 0, 0), ("load", 0, 5)], (0, 0), 0)
        self.check([("load", 0, 5), ("right", 0, 0)], (0, 0), 1)
        # The slot 1 is not register 1, nor is slot 8 one of the registers.
        self.check([("right", 1, 1), ("load", 0, 1)], (0, 0), 0)
        self.check([("right", 1, 1), ("store", 0, 1), ("load", 2, 8)], (0, 0), 0)

    def test_tests(self):
        for depth, modulus in enumerate((1, 2, 4, 8, 16, 32, 64)):
            self.check([("skip", 1, modulus, 0, 0)], (0, depth), depth)
            self.check([("right", 0, 0), ("add", 2, 0, 1), ("skip", 2, modulus, 0, 0), ("copy", 0, 1)],
                       (1 + depth, depth), 1 + depth)
            self.check([("right", 3, 3), ("skip", 3, modulus, 0, 0)], (0, 0), 1 + depth)
            # A skip that tests an input, with nothing behind it.
            self.check([("set", 0, 1), ("skip", 1, modulus, 0, 0)], (0, depth), depth)

    def test_ways_that_meet(self):
        self.check([("skip", 1, 2, 0, 1), ("right", 0, 0), ("right", 0, 0)], (2, 1), 2)
        self.check([("skip", 1, 2, 0, 2), ("right", 0, 0), ("right", 0, 0)], (2, 1), 2)
        self.check([("skip", 1, 2, 0, 1), ("set", 0, 0), ("right", 0, 0)], (1, 1), 1)
        self.check([("right", 0, 0), ("skip", 1, 1, 0, 1), ("copy", 0, 1), ("right", 0, 0)], (2, 1), 2)
        # Also ways that no numbers ever take.
        self.check([("skip", 2, 1, 0, 1), ("right", 0, 0)], (1, 0), 1)
        self.check([("set", 2, 1), ("skip", 2, 2, 0, 1), ("right", 0, 0)], (1, 0), 1)
        # Each way halves one of them only.
        self.check([("skip", 1, 2, 0, 2), ("right", 0, 0), ("skip", 1, 1, 0, 1), ("right", 1, 1), ("add", 0, 0, 1)],
                   (1, 1), 1)
        self.check([("skip", 0, 2, 1, 3), ("store", 0, 1), ("right", 1, 1), ("store", 0, 1), ("load", 0, 0)], (1, 1), 1)

    def test_made_code(self):
        tried = 0
        for seed in range(300):
            source = random.Random(seed)
            inputs, registers = source.randint(1, 3), source.randint(3, 6)
            rows = random_rows(source, registers, source.randint(0, 25))
            if len([row for row in rows if row[0] == "skip"]) <= 8:
                tried += 1
                found = [call(Machine(8, registers), Code(rows), *more) for call, more in
                         ((code_loss, (inputs,)), (code_depth, ()))]
                self.assertEqual(tuple(found), plain.looked_at(rows, inputs), seed)
        self.assertGreater(tried, 200)

    def test_hundreds_of_skips(self):
        begin = time.perf_counter()
        rows = []
        for at in range(240):
            rows.extend([("skip", 0, 2, at % 2, 2), ("add", 0, 0, 1), ("store", at, 0), ("load", 2, at)])
        rows.extend([("skip", 1, 4, 0, 1), ("right", 0, 0), ("right", 0, 0)])
        self.assertEqual([code_loss(MACHINE, Code(rows), 3), code_depth(MACHINE, Code(rows))], [(2, 2, 0), 2])
        rows = [("skip", 0, 2, 0, 999 - at) for at in range(1000)]
        self.assertEqual([code_loss(MACHINE, Code(rows), 1), code_depth(MACHINE, Code(rows))], [(1,), 1])
        rows = [row for at in range(300) for row in (("skip", 0, 1, 0, 1), ("right", 0, 0))]
        self.assertEqual([code_loss(MACHINE, Code(rows), 1), code_depth(MACHINE, Code(rows))], [(300,), 300])
        self.assertLess(time.perf_counter() - begin, 5)

    def test_other_registers(self):
        rows = [("skip", 0, 1, 0, 2), ("left", 0, 0), ("copy", 4, 0), ("set", 0, 1), ("set", 7, 0)]
        for call in (lambda: code_loss(MACHINE, Code(rows), 1), lambda: code_depth(MACHINE, Code(rows))):
            with self.assertRaises(InvalidCode) as caught:
                call()
            self.assertEqual((caught.exception.word, caught.exception.row), ("register", 2))

    def test_arguments(self):
        code = Code([("right", 0, 0)])
        self.assertEqual(code_loss(machine=MACHINE, code=code, inputs=2), (1, 0))
        self.assertEqual(code_depth(machine=MACHINE, code=code), 1)
        self.assertEqual([code_loss(MACHINE, code, 1), code_loss(MACHINE, code, 3), code_loss(MACHINE, code, 1)],
                         [(1,), (1, 0, 0), (1,)])


if __name__ == "__main__":
    unittest.main()
