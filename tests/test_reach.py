"""What promise 28 needs of promise 32: how far up the bits of an input matter."""

import random
import unittest

from lowsure.errors import NotOdd
from lowsure.library import Library
from lowsure.lists import count_points
from lowsure.reach import reach, values_of
from lowsure.tables import Table
from tests.made import random_function


def piece(result, inputs="x"):
    return Library.read(f"function f {inputs}\ngive {result}").piece("f")


def reached(doer, bits, at):
    return reach(doer, bits, at, values_of(doer, bits))


class ReachTest(unittest.TestCase):

    def test_one_input(self):
        for result, bits, number in (("3", 5, 0), ("x", 1, 1), ("x", 64, 64), ("half x", 5, 6), ("x * x", 4, 3),
                                     ("x * x", 1, 1), ("half ( x * x + x )", 4, 5), ("4 * x", 5, 3), ("32 * x", 5, 0),
                                     ("( if x mod 16 is 3 then 1 else 0 )", 1, 4), ("x ** 4", 5, 3), ("3 to x", 6, 4),
                                     ("0 * half half half x", 5, 0), ("half ( 2 * x )", 7, 7)):
            self.assertEqual(reached(piece(result), bits, 0), number, result)

    def test_two_inputs(self):
        found = piece("half x + 4 * y + x * y * 0", "x y")
        self.assertEqual([reached(found, 5, at) for at in (0, 1)], [6, 3])
        self.assertEqual([reached(Table.of(found, 5), 5, at) for at in (0, 1)], [6, 3])

    def test_made_pieces(self):
        for seed in range(60):
            try:
                made = Library([random_function(random.Random(seed), "f", ())]).piece("f")
            except NotOdd:
                continue
            if made.inputs > 1 or count_points(made.loss, 3) > 500:
                continue
            depth = made.loss[0] + 3
            values = [made((x,), 3) for x in range(2 ** depth)]
            same = [a for a in range(depth + 1) if all([values[x] == values[x % 2 ** a] for x in range(2 ** depth)])]
            self.assertEqual(reached(made, 3, 0), same[0])


if __name__ == "__main__":
    unittest.main()
