"""Promises 32 and 33: `needed`, `needed_pair`, `sure`, `sure_pair`."""

import itertools
import random
import unittest

from lowsure.errors import Mismatch, NotOdd, TooMany
from lowsure.library import Library
from lowsure.lists import count_points
from lowsure.needed import needed, needed_pair, sure, sure_pair
from lowsure.tables import Table
from tests.made import random_function


def piece(result, inputs="x", rows=()):
    return Library.read("\n".join([f"function f {inputs}", *rows, f"give {result}"])).piece("f")


def plain_needed(doer, bits):
    """The needed numbers by going through all residues that can matter."""
    depths = [loss + bits for loss in doer.loss]
    whole = {point: doer(point, bits) for point in itertools.product(*[range(2 ** depth) for depth in depths])}
    found = []
    for at, depth in enumerate(depths):
        fits = [a for a in range(depth + 1)
                if all(value == whole[tuple([x % 2 ** a if index == at else x for index, x in enumerate(point)])]
                       for point, value in whole.items())]
        found.append(fits[0])
    return tuple(found)


class DoerTest(unittest.TestCase):

    def check_needed(self, doer, bits):
        """Checks the pairs of all inputs by asking the doer; returns the numbers."""
        numbers = needed(doer, bits)
        self.assertIsInstance(numbers, tuple)
        for at, number in enumerate(numbers):
            pair = needed_pair(doer, bits, at)
            if number == 0:
                self.assertIsNone(pair)
                continue
            one, other = pair
            self.assertIsInstance(pair, tuple)
            self.assertEqual((type(one), type(other), len(one), len(other)), (tuple, tuple, doer.inputs, doer.inputs))
            self.assertGreaterEqual(min(one + other), 0)
            self.assertEqual([x ^ y for x, y in zip(one, other)],
                             [2 ** (number - 1) if index == at else 0 for index in range(doer.inputs)])
            self.assertNotEqual(doer(one, bits), doer(other, bits))
        return numbers

    def check_sure(self, doer, widths, bits):
        """Checks the sure bits by `needed`, and the pair by asking the doer; returns the number."""
        number = sure(doer, widths, bits)
        fits = [k for k in range(1, bits + 1) if all(a <= b for a, b in zip(needed(doer, k), widths))]
        self.assertEqual(number, max([0, *fits]))
        pair = sure_pair(doer, widths, bits)
        if number == bits:
            self.assertIsNone(pair)
            return number
        one, other = pair
        self.assertEqual((type(pair), type(one), type(other)), (tuple, tuple, tuple))
        for x, y, width in zip(one, other, widths):
            self.assertEqual((x - y) % 2 ** width, 0)
        self.assertEqual((doer(one, bits) ^ doer(other, bits)) % 2 ** (number + 1), 2 ** number)
        return number


class NeededTest(DoerTest):

    def test_one_input(self):
        for result, bits, number in (("3", 5, 0), ("x", 1, 1), ("x", 64, 64), ("half x", 5, 6), ("x * x", 4, 3),
                                     ("x * x", 1, 1), ("half ( x * x + x )", 4, 5), ("4 * x", 5, 3), ("32 * x", 5, 0),
                                     ("( if x mod 16 is 3 then 1 else 0 )", 1, 4), ("x ** 4", 5, 3), ("3 to x", 6, 4),
                                     ("0 * half half half x", 5, 0), ("half ( 2 * x )", 7, 7), ("5 over 3", 64, 0),
                                     ("x over 3", 9, 9), ("( 2 * x + 1 ) to x", 5, 4), ("half half half x", 64, 67)):
            self.assertEqual(self.check_needed(piece(result), bits), (number,), result)

    def test_more_inputs(self):
        self.assertEqual(self.check_needed(piece("half x + 4 * y + x * y * 0", "x y"), 5), (6, 3))
        self.assertEqual(self.check_needed(piece("half x + 2 * z", "x y z"), 3), (4, 0, 2))
        self.assertEqual(self.check_needed(piece("( if z mod 4 is 1 then half x else y )", "x y z"), 2), (3, 2, 2))
        self.assertEqual(self.check_needed(piece("x * y", "x y"), 4), (4, 4))

    def test_the_document_and_argument_names(self):
        sq = piece("half ( x * x + x )")
        self.assertEqual(needed(doer=sq, bits=4), (5,))
        one, other = needed_pair(doer=sq, bits=4, at=0)
        self.assertEqual(one[0] ^ other[0], 16)
        self.assertEqual([sure(sq, (5,), 10), sure(doer=sq, widths=[5], bits=10)], [4, 4])
        self.assertEqual(sure_pair(doer=sq, widths=[5], bits=10), sure_pair(sq, (5,), 10))

    def test_tables(self):
        for found in (piece("half x + x * x"), piece("half x * y + 3 * y", "x y")):
            for bits in (1, 2, 4):
                table = Table.of(found, 4)
                self.assertEqual(self.check_needed(table, bits), self.check_needed(found, bits))
        self.assertEqual(self.check_needed(Table.constant(5, 2, 3), 3), (0, 0))
        self.assertEqual(self.check_needed(Table((0,), 3, (0, 3, 2, 5)), 3), plain_needed(Table((0,), 3, (0, 3, 2, 5)), 3))

    def test_terms_that_name_no_input(self):
        rows = ("let a = half half half 1000", "repeat s , t = a , 7 by t , s + t times 5000")
        self.assertEqual(self.check_needed(piece("s * t + half half a", "x y", rows), 6), (0, 0))
        self.assertEqual(self.check_needed(piece("s * x + half half a", "x y", rows), 6)[1], 0)

    def test_made_pieces(self):
        seen = 0
        for seed in range(150):
            try:
                made = Library([random_function(random.Random(seed), "f", ())]).piece("f")
            except NotOdd:
                continue
            for bits in (1, 2, 3):
                if sum(made.loss) + made.inputs * bits <= 10 and max(made.loss) <= 4:
                    self.assertEqual(self.check_needed(made, bits), plain_needed(made, bits), (seed, bits))
                    seen += 1
        self.assertGreater(seen, 60)

    def test_errors(self):
        table = Table.of(piece("half x"), 5)
        wide = piece("half half half half half half ( x + y )", "x y")
        with self.assertRaises(TooMany) as caught:
            needed(wide, 4)
        self.assertEqual(caught.exception.count, count_points((6, 6), 4))
        with self.assertRaises(TooMany) as caught:
            needed_pair(wide, 4, 1)
        self.assertEqual(caught.exception.count, count_points((6, 6), 4))
        for bits in (6, 64, 65):
            with self.assertRaises(Mismatch):
                needed(table, bits)
            with self.assertRaises(Mismatch):
                needed_pair(table, bits, 0)
        # Both errors at once: the first one is told.
        with self.assertRaises(Mismatch):
            needed(wide, 65)
        with self.assertRaises(Mismatch):
            needed_pair(wide, 65, 0)
        self.assertEqual(needed(table, 5), (6,))


class SureTest(DoerTest):

    def test_one_input(self):
        for result, width, bits, number in (("x", 5, 64, 5), ("x", 0, 64, 0), ("x", 100, 64, 64), ("half x", 5, 64, 4),
                                            ("half x", 0, 9, 0), ("3", 0, 64, 64), ("8 * x", 2, 64, 5),
                                            ("8 * x", 0, 64, 3), ("8 * x", 62, 64, 64), ("x * x", 3, 9, 4)):
            self.assertEqual(self.check_sure(piece(result), (width,), bits), number, result)

    def test_default_bits(self):
        found = piece("half x")
        self.assertEqual([sure(found, [9]), sure(found, [65]), sure(found, [64]), sure(found, [100])], [8, 64, 63, 64])
        self.assertIsNone(sure_pair(found, (65,)))
        self.assertEqual(sure(Table.of(found, 5), (9,)), 5)
        self.assertIsNone(sure_pair(Table.of(found, 5), (9,), None))
        self.assertEqual(sure(Table.of(found, 5), (4,)), 3)

    def test_more_inputs(self):
        found = piece("half x + 4 * y", "x y")
        for widths in itertools.product((0, 1, 2, 4, 8, 100), repeat=2):
            self.check_sure(found, widths, 5)
            self.check_sure(found, list(widths), 3)
        three = piece("( if z mod 4 is 1 then half x else y )", "x y z")
        for widths in itertools.product((0, 1, 3, 9), repeat=3):
            self.check_sure(three, widths, 2)
        self.assertEqual(sure(three, (0, 0, 1), 2), 0)
        self.assertEqual(sure(piece("2 * x + y", "x y"), (2, 100)), 3)

    def test_all_widths(self):
        found = piece("half ( x * x + x )")
        for width in range(101):
            self.assertEqual(sure(found, (width,)), min(64, max(0, width - 1)))
            self.assertEqual(sure_pair(found, (width,)) is None, width >= 65)

    def test_made_pieces(self):
        seen = 0
        for seed in range(100):
            source = random.Random(seed)
            try:
                made = Library([random_function(source, "f", ())]).piece("f")
            except NotOdd:
                continue
            if count_points(made.loss, 4) <= 500:
                for _ in range(3):
                    self.check_sure(made, [source.choice([0, 1, 2, 3, 5, 8, 40]) for _ in made.loss], 4)
                    seen += 1
        self.assertGreater(seen, 100)

    def test_errors(self):
        found = piece("half x + y", "x y")
        wide = piece("half half half half half half ( x + y )", "x y")
        for call in (sure, sure_pair):
            for widths in ((), (1,), [1, 2, 3]):
                with self.assertRaises(Mismatch):
                    call(found, widths, 3)
                with self.assertRaises(Mismatch):
                    call(wide, widths, 4)
            for doer in (found, wide):
                with self.assertRaises(Mismatch):
                    call(doer, (1, 2), 65)
            with self.assertRaises(TooMany) as caught:
                call(wide, (1, 2), 4)
            self.assertEqual(caught.exception.count, count_points((6, 6), 4))
            with self.assertRaises(TooMany):
                call(wide, (1, 2))

    def test_arguments_stay(self):
        widths = [3, 4]
        found = piece("x + y", "x y")
        self.assertEqual([sure(found, widths), sure(found, widths, 2), sure(found, widths)], [3, 2, 3])
        self.assertEqual(widths, [3, 4])
        self.assertEqual(needed(found, 5), needed(found, 5))


if __name__ == "__main__":
    unittest.main()
