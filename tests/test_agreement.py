"""Promises 6 and 27 to 29: agreement, and where it holds."""

import random
import unittest

from lowsure.agreement import agree, solutions, where_agree
from lowsure.errors import Mismatch, NotOdd, TooMany
from lowsure.library import Library
from lowsure.lists import count_points, points
from lowsure.tables import Table
from tests import plain
from tests.made import random_function


def piece(result, inputs="x", rows=()):
    return Library.read("\n".join([f"function f {inputs}", *rows, f"give {result}"])).piece("f")


def made_pieces(number):
    """Pieces of made functions whose lists for a few bits are short."""
    found = []
    for seed in range(number):
        try:
            made = Library([random_function(random.Random(seed), "f", ())]).piece("f")
        except NotOdd:
            continue
        if count_points(made.loss, 4) <= 1000:
            found.append(made)
    return found


def differ(one, other, point):
    """To how many bits two doers agree at a point."""
    changed = one(point, 64) ^ other(point, 64)
    return 64 if changed == 0 else (changed & -changed).bit_length() - 1


class AgreeTest(unittest.TestCase):

    def test_examples(self):
        text = ("function sq x\ngive half ( x * x + x )\nfunction tri x\nlet a = half x\n"
                "give ( if x mod 2 is 0 then a * ( x + 1 ) else x * ( a + 1 ) )")
        library = Library.read(text)
        self.assertEqual(agree(library.piece("sq"), library.piece("tri")), (64, None))
        cube = piece("x ** 3 - x")
        bits, point = agree(cube, piece("0"), 8)
        self.assertEqual(bits, 1)
        self.assertEqual(differ(cube, piece("0"), point), 1)

    def test_same_functions(self):
        for one, other, inputs in (("half ( 2 * x )", "x", "x"), ("( x + y ) ** 2", "x * x + 2 * x * y + y * y", "x y"),
                                   ("x over 3 * 3", "x", "x"), ("3 to ( x + 1 )", "3 * 3 to x", "x"),
                                   ("half x + half ( x + 1 )", "x", "x"), ("9 to x", "3 to x * 3 to x", "x"),
                                   ("( if x mod 2 is 0 then half x else half ( x - 1 ) )", "half x", "x"),
                                   ("1 to x", "1", "x"), ("-1 to x", "1 - 2 * x + 4 * half x", "x")):
            self.assertEqual(agree(piece(one, inputs), piece(other, inputs), 40), (40, None), one)
            self.assertEqual(agree(one=piece(one, inputs), other=piece(other, inputs), bits=1), (1, None), one)

    def test_first_differing_bit(self):
        for one, other, inputs, bits in (("x", "x + 1", "x", 0), ("x * x", "x", "x", 1), ("x ** 4", "x ** 2", "x", 2),
                                         ("( 2 * x + 1 ) ** 2", "1", "x", 3), ("half x", "x", "x", 0),
                                         ("x * y", "x + y", "x y", 0), ("x * x * y + x * y", "0", "x y", 1),
                                         ("3 to ( x + 2 ) + 5 * 3 to x", "14 * 3 to x", "x", 64),
                                         ("3 to x", "3", "x", 1), ("9 to x", "1", "x", 3)):
            found = agree(piece(one, inputs), piece(other, inputs), 40)
            self.assertEqual(found[0], min(bits, 40), one)
            if bits < 40:
                self.assertEqual(differ(piece(one, inputs), piece(other, inputs), found[1]), bits)
                self.assertIsInstance(found[1], tuple)

    def test_functions_that_differ_only_far_up(self):
        # The product of n integers in a row is a multiple of n!, and of no greater power of two everywhere.
        for n in (2, 4, 8, 16, 32, 64):
            rows, result = [], "1"
            for begin in range(0, n, 8):
                name = "abcdefgh"[begin // 8]
                rows.append(f"let {name} = " + " * ".join([f"( x - {j} )" for j in range(begin, min(n, begin + 8))]))
                result += f" * {name}"
            bits = plain.twos(n)
            self.assertEqual(agree(piece(result, "x", rows), piece("0"))[0], bits)
            self.assertEqual(agree(piece(result, "x", rows), piece("0"), bits), (bits, None))
            self.assertEqual(agree(piece(result, "x", rows), piece("0"), bits + 1)[0], bits)
        for bit in (20, 62, 63):
            one = piece(f"x + {2 ** bit} * half x")
            self.assertEqual(agree(one, piece("x"))[0], bit)
            self.assertEqual(agree(one, piece("x"), bit), (bit, None))
            self.assertGreater(agree(one, piece("x"))[1][0], 1)

    def test_the_point_is_in_the_list(self):
        one, other = piece("( if x mod 8 is 5 then 4 else 0 )"), piece("0")
        for bits in (3, 4, 10, 64):
            least, point = agree(one, other, bits)
            self.assertEqual(least, 2)
            self.assertIn(point, list(points((3,), bits)))
            self.assertEqual(point[0] % 8, 5)
        self.assertEqual(agree(one, other, 2), (2, None))

    def test_bits_none(self):
        table = Table.of(piece("x"), 7)
        self.assertEqual(agree(piece("x"), piece("x")), (64, None))
        self.assertEqual(agree(table, piece("x"), None), (7, None))
        self.assertEqual(agree(piece("x"), table), (7, None))
        self.assertEqual(agree(Table.of(piece("x"), 9), table), (7, None))
        self.assertEqual(agree(piece("x + 128"), table), (7, None))
        self.assertEqual(agree(piece("x + 64"), table)[0], 6)

    def test_tables_and_pieces(self):
        half = piece("half ( x * y )", "x y")
        table = Table.of(half, 8)
        self.assertEqual(agree(half, table), (8, None))
        self.assertEqual(agree(table, Table.of(half, 8, (2, 1)), 8), (8, None))
        self.assertEqual(agree(Table.constant(3, 2, 8), table)[0], 0)

    def test_mismatch(self):
        for one, other, bits in ((piece("x"), piece("x", "x y"), 3), (piece("x"), piece("x"), 65),
                                 (Table.of(piece("x"), 7), piece("x"), 8), (piece("x"), Table.of(piece("x"), 7), 8),
                                 (piece("x", "x y"), Table.of(piece("x"), 7), None),
                                 (piece("x", "x y z"), piece("x"), 64)):
            with self.assertRaises(Mismatch):
                agree(one, other, bits)

    def test_too_many(self):
        three = piece("x + y + z", "x y z")
        self.assertEqual(agree(three, three, 22), (22, None))
        eight = piece("half x + half y + half z", "x y z")
        self.assertEqual(count_points((1, 1, 1), 10), 4992)
        self.assertEqual(agree(eight, eight, 10), (10, None))
        for one, other, bits, count in ((three, three, None, 64008), (three, three, 64, 64008),
                                        (piece("half half x", "x y"), piece("half half y", "x y"), 40,
                                         count_points((2, 2), 40)),
                                        (piece("half x", "x y"), piece("half y", "x y"), 44, 5024),
                                        (piece("( if x mod 64 is 0 then half x else 0 )"),
                                         piece("half half half half half half half x"), 64, 66 * 128)):
            with self.assertRaises(TooMany) as caught:
                agree(one, other, bits)
            self.assertEqual(caught.exception.count, count)

    def test_mismatch_comes_before_too_many(self):
        three = piece("x + y + z", "x y z")
        with self.assertRaises(Mismatch):
            agree(three, three, 65)
        with self.assertRaises(Mismatch):
            agree(three, piece("x"), 64)

    def test_made_pieces(self):
        pieces = made_pieces(60)
        source = random.Random(9)
        for one in pieces:
            for other in source.sample(pieces, 8):
                if one.inputs != other.inputs or count_points([max(p) for p in zip(one.loss, other.loss)], 4) > 1000:
                    continue
                bits, point = agree(one, other, 4)
                seen = [[source.randint(-500, 500) for _ in range(one.inputs)] for _ in range(60)]
                for place in seen:
                    self.assertGreaterEqual(differ(one, other, place), bits)
                if point is None:
                    self.assertEqual(bits, 4)
                else:
                    self.assertEqual(differ(one, other, point), bits)
                    self.assertLess(bits, 4)

    def test_same_answer_after_others(self):
        one, other = piece("3 to x"), piece("3 to ( x + 16 )")
        found = agree(one, other, 30)
        agree(one, piece("x"))
        agree(one, other, 3)
        where_agree(one, other, 4)
        self.assertEqual(agree(one, other, 30), found)

    def test_many_rounds(self):
        one = piece("s", "x", ["repeat s = x by 3 * s times 1000000000000000000"])
        other = piece("s", "x", ["repeat s = x by 9 * s times 500000000000000000"])
        self.assertEqual(agree(one, other), (64, None))
        self.assertLess(agree(one, piece("x"))[0], 64)
        two = piece("s + t", "x y", ["repeat s , t = x , y by t , s times 1000000000000000000"])
        self.assertEqual(agree(two, piece("x + y", "x y"), 6), (6, None))


class WhereTest(unittest.TestCase):

    def test_by_hand(self):
        for one, other, bits, classes in (
                ("x", "x", 5, ((0, 0),)), ("x", "x + 1", 5, ()), ("x", "0", 3, ((3, 0),)), ("x", "-3", 3, ((3, 5),)),
                ("x * x", "x", 3, ((3, 0), (3, 1))), ("x * x", "1", 3, ((1, 1),)), ("x * x", "1", 4, ((3, 1), (3, 7))),
                ("half x", "0", 1, ((2, 0), (2, 1))), ("x * ( x + 1 )", "0", 2, ((2, 0), (2, 3))),
                ("( if x mod 4 is 2 then 1 else 0 )", "0", 1, ((2, 0), (1, 1))),
                ("( if x mod 8 is 6 then x else 0 )", "x", 2, ((2, 0), (3, 6))),
                ("( if x mod 8 is 5 then 1 else 0 )", "0", 1, ((1, 0), (3, 1), (2, 3)))):
            self.assertEqual(where_agree(piece(one), piece(other), bits), classes, (one, other))

    def test_results_are_tuples(self):
        found = where_agree(one=piece("x"), other=piece("0"), bits=3)
        self.assertIsInstance(found, tuple)
        self.assertIsInstance(found[0], tuple)

    def test_tables(self):
        table = Table.of(piece("x * x"), 4)
        self.assertEqual(where_agree(table, piece("1"), 4), ((3, 1), (3, 7)))
        self.assertEqual(where_agree(piece("1"), table, 3), ((1, 1),))
        self.assertEqual(where_agree(table, Table.of(piece("x"), 4, (2,)), 3), ((3, 0), (3, 1)))

    def test_made_pieces(self):
        pieces = [made for made in made_pieces(150) if made.inputs == 1]
        source = random.Random(10)
        done = 0
        for one in pieces:
            for other in source.sample(pieces, 4):
                try:
                    found = where_agree(one, other, 2)
                except TooMany:
                    continue
                depth = max(one.loss[0], other.loss[0]) + 2
                holds = [differ(one, other, (x,)) >= 2 for x in range(2 ** depth)]
                self.assertEqual(found, plain.classes_where(holds, depth))
                done += 1
        self.assertGreater(done, 50)

    def test_mismatch(self):
        for one, other, bits in ((piece("x"), piece("x", "x y"), 3), (piece("x"), piece("x"), 65),
                                 (Table.of(piece("x"), 7), piece("x"), 8)):
            with self.assertRaises(Mismatch):
                where_agree(one, other, bits)

    def test_too_many(self):
        self.assertEqual(where_agree(piece("x"), piece("0"), 10), ((10, 0),))
        self.assertEqual(where_agree(piece("half half x"), piece("0"), 8), tuple([(10, r) for r in range(4)]))
        for one, other, bits, count in (("x", "0", 11, 2 ** 11), ("0", "x", 64, 2 ** 64), ("x", "x", 20, 2 ** 20),
                                        ("half half x", "0", 9, 2 ** 11), ("x", "half half x", 10, 2 ** 12),
                                        ("0", "half half half half half half half x", 64, 66 * 128)):
            with self.assertRaises(TooMany) as caught:
                where_agree(piece(one), piece(other), bits)
            self.assertEqual(caught.exception.count, count, one)

    def test_needed_bits_count_not_losses(self):
        # The loss is 11, but a single low bit of x is needed.
        deep = piece("x + 0 * half half half half half half half half half half half x")
        self.assertEqual(where_agree(deep, piece("1"), 1), ((1, 1),))
        self.assertEqual(where_agree(piece("1024 * x"), piece("0"), 12), ((2, 0),))
        self.assertEqual(where_agree(piece("2048 * x * x"), piece("2048"), 12), ((1, 1),))
        self.assertEqual(where_agree(piece("3 to x"), piece("3"), 12), ((10, 1),))
        with self.assertRaises(TooMany) as caught:
            where_agree(piece("3 to x"), piece("3"), 13)
        self.assertEqual(caught.exception.count, 2 ** 11)


class SolutionsTest(unittest.TestCase):

    def test_by_hand(self):
        for result, value, bits, classes in (
                ("x", 5, 3, ((3, 5),)), ("x", -3, 3, ((3, 5),)), ("x * x", 1, 3, ((1, 1),)), ("x * x", 17, 4, ((3, 1), (3, 7))),
                ("x * x", 3, 2, ()), ("x * x", 0, 4, ((2, 0),)), ("0", 0, 64, ((0, 0),)), ("0", 64, 6, ((0, 0),)),
                ("0", 64, 7, ()), ("half x", 1, 2, ((3, 2), (3, 3))), ("3 to x", 3, 4, ((2, 1),)), ("2 * x", 2, 4, ((3, 1),)),
                ("x ** 3 - x", 0, 5, ((5, 0), (4, 1), (4, 15)))):
            self.assertEqual(solutions(piece(result), value, bits), classes, result)

    def test_parameter_names_and_tables(self):
        table = Table.of(piece("x * x"), 4)
        self.assertEqual(solutions(doer=table, value=-15, bits=4), ((3, 1), (3, 7)))
        self.assertEqual(solutions(table, 10 ** 30 + 1 - 10 ** 30, 3), ((1, 1),))

    def test_all_integers(self):
        for made in [each for each in made_pieces(100) if each.inputs == 1]:
            for value in (0, 3, -2):
                try:
                    found = solutions(made, value, 3)
                except TooMany:
                    continue
                depth = made.loss[0] + 3
                holds = [made((x,), 3) == value % 8 for x in range(2 ** depth)]
                self.assertEqual(found, plain.classes_where(holds, depth))

    def test_errors(self):
        for doer, bits in ((piece("x"), 65), (Table.of(piece("x"), 7), 8), (Table.of(piece("x"), 7), 10 ** 6)):
            with self.assertRaises(Mismatch):
                solutions(doer, 1, bits)
        for doer, bits, count in ((piece("x"), 11, 2 ** 11), (piece("half x"), 10, 2 ** 11),
                                  (piece("half half half half half half half x"), 64, 66 * 128)):
            with self.assertRaises(TooMany) as caught:
                solutions(doer, 1, bits)
            self.assertEqual(caught.exception.count, count)


if __name__ == "__main__":
    unittest.main()
