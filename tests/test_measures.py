"""Promises 49 and 50: `need_bits`, `depth_of` and `cost`."""

import random
import unittest

from lowsure.errors import NotOdd
from lowsure.library import Library
from lowsure.measures import cost, depth_of, need_bits
from tests import plain, plainmeasures
from tests.made import random_function


def piece(result, inputs="x y", rows=(), before=""):
    return Library.read("\n".join([*before.split("\n"), f"function f {inputs}", *rows, f"give {result}"]).strip()).piece("f")


def made_libraries(count):
    """Libraries of made functions, with the functions."""
    for seed in range(count):
        source = random.Random(seed)
        functions = []
        for name in "fgh"[:source.choice([1, 2, 3])]:
            function = random_function(source, name, functions)
            if max(plain.losses_of([*functions, function])[name]) <= 6:
                functions.append(function)
        try:
            yield Library(functions), functions
        except (NotOdd, ValueError):
            continue


class NeedTest(unittest.TestCase):

    def test_nodes(self):
        for result, bits, number in (("7", 5, 5), ("x", 64, 64), ("x + y", 3, 3), ("half x", 5, 6), ("half half 3", 5, 7),
                                     ("half ( x - half y )", 4, 6), ("x over 3", 9, 9), ("x ** 3 * half y", 9, 10),
                                     ("3 to half x", 5, 6), ("( 2 * half x + 1 ) to y", 5, 6),
                                     ("( if x mod 64 is 3 then y else 5 )", 2, 6), ("( if x mod 64 is 3 then y else 5 )", 9, 9),
                                     ("( if half x mod 64 is 3 then y else 5 )", 2, 7),
                                     ("( if x mod 2 is 1 then half y else 5 )", 7, 8),
                                     ("( if x mod 2 is 1 then 1 else half half y )", 7, 9), ("half x ** 0", 5, 6)):
            self.assertEqual(need_bits(piece(result), bits), number, result)
            self.assertEqual(need_bits(piece=piece(result), bits=bits), number)

    def test_rows(self):
        self.assertEqual(need_bits(piece("half a", rows=["let a = half x"]), 5), 7)
        self.assertEqual(need_bits(piece("half a + half half a", rows=["let a = half x"]), 5), 8)
        # A row that nothing names is needed to the bits that were passed.
        self.assertEqual(need_bits(piece("x", rows=["let a = half x"]), 5), 6)
        self.assertEqual(need_bits(piece("x", rows=["let a = half x", "let b = half a"]), 5), 7)
        # What is only tested is needed to fewer bits than were passed.
        self.assertEqual(need_bits(piece("( if a mod 2 is 1 then x else y )", rows=["let a = half half half x"]), 2), 4)
        self.assertEqual(need_bits(piece("( if a mod 2 is 1 then x else y )", rows=["let a = half x"]), 9), 9)

    def test_repeats(self):
        row = "repeat s , t = half x , y by t , s + 1 times 5"
        self.assertEqual(need_bits(piece("s", rows=[row]), 5), 6)
        self.assertEqual(need_bits(piece("t", rows=[row]), 5), 6)
        self.assertEqual(need_bits(piece("s + half half t", rows=[row]), 5), 8)
        self.assertEqual(need_bits(piece("x", rows=[row]), 5), 6)
        self.assertEqual(need_bits(piece("half s", rows=["repeat s = y by 7 times 0"]), 5), 6)

    def test_calls(self):
        before = "function g a b\nlet u = half half a\ngive half b"
        # The loss of g is 2 for its first argument and 1 for its second; the row u is needed to the bits passed.
        self.assertEqual(need_bits(piece("g ( x , y )", before=before), 5), 7)
        self.assertEqual(need_bits(piece("half g ( x , y )", before=before), 5), 8)
        self.assertEqual(need_bits(piece("g ( half x , y )", before=before), 5), 8)
        self.assertEqual(need_bits(piece("g ( half half x , half half y )", before=before), 5), 9)
        unused = "function g a\nlet u = half half half half a\ngive 1"
        self.assertEqual(need_bits(piece("( if g ( 7 ) mod 2 is 0 then x else y )", before=unused), 9), 13)
        self.assertEqual(need_bits(piece("( if g ( x ) mod 2 is 0 then x else y )", before=unused), 2), 6)
        twice = before + "\nfunction h a\ngive g ( a , half a )"
        self.assertEqual(need_bits(piece("h ( x ) + half h ( y )", before=twice), 5), 8)

    def test_made_pieces(self):
        seen = 0
        for library, functions in made_libraries(250):
            for name in library.names:
                for bits in (1, 8, 64):
                    self.assertEqual(need_bits(library.piece(name), bits), plainmeasures.need_bits(functions, name, bits))
                    seen += 1
        self.assertGreater(seen, 300)


class DepthTest(unittest.TestCase):

    def test_nodes(self):
        for result, number in (("7", 0), ("x", 0), ("half x", 1), ("half half 3 + x", 2), ("x over ( 2 * half x + 1 )", 1),
                               ("half x ** 3", 1), ("3 to half x", 1), ("( 2 * half x + 1 ) to y", 2), ("3 to x", 1),
                               ("( if x mod 64 is 3 then y else 5 )", 6), ("( if 3 mod 2 is 1 then half half y else 5 )", 2),
                               ("( if half x mod 8 is 1 then y else half y )", 4)):
            self.assertEqual(depth_of(piece(result)), number, result)

    def test_rows_and_calls(self):
        self.assertEqual(depth_of(piece("half a", rows=["let a = half x"])), 2)
        self.assertEqual(depth_of(piece("y", rows=["let a = half half x"])), 2)
        self.assertEqual(depth_of(piece("half t", rows=["repeat s , t = half half x , y by t , s times 4"])), 3)
        before = "function g a b\nlet u = half half a\ngive half b"
        self.assertEqual(depth_of(piece("g ( x , half y )", before=before)), 3)
        self.assertEqual(depth_of(piece("g ( 3 , 4 )", before=before)), 2)
        self.assertEqual(depth_of(piece=piece("x", before=before)), 0)

    def test_made_pieces(self):
        for library, functions in made_libraries(250):
            for name in library.names:
                self.assertEqual(depth_of(library.piece(name)), plainmeasures.depth_of(functions, name))


class CostTest(unittest.TestCase):

    def test_nodes(self):
        for result, number in (("7", 2), ("x", 0), ("x + y", 15), ("x - 1", 17), ("x * x * x", 30), ("half x", 10),
                               ("x over 3", 202), ("x ** 0", 2), ("x ** 5", 77), ("half x ** 64", 972), ("3 to x", 2),
                               ("( if x mod 2 is 0 then 1 else half y )", 27)):
            self.assertEqual(cost(piece(result)), number, result)

    def test_rows_and_calls(self):
        self.assertEqual(cost(piece("half a", rows=["let a = half x"])), 25)
        self.assertEqual(cost(piece("x", rows=["repeat s = 7 by s + 1 times 10"])), 177)
        self.assertEqual(cost(piece("x", rows=["repeat s , t = x , 7 by t + 1 , s times 0"])), 12)
        self.assertEqual(cost(piece("x", rows=[f"repeat s = x by s * s times {10 ** 18}"])), 5 + 15 * 10 ** 18)
        before = "function g a b\nlet u = half half a\ngive half b\nfunction h a\ngive g ( a , a ) + a"
        self.assertEqual(cost(piece("g ( x , 3 )", before=before)), 35 + 10 + 2)
        self.assertEqual(cost(piece("h ( g ( x , y ) )", before=before)), 35 + 10 + 15 + 5 + 35 + 10)
        self.assertEqual(cost(piece=piece("x", before=before)), 0)

    def test_made_pieces(self):
        for library, functions in made_libraries(250):
            for name in library.names:
                self.assertEqual(cost(library.piece(name)), plainmeasures.cost(functions, name))


if __name__ == "__main__":
    unittest.main()
