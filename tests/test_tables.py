"""Promises 7 and 22 to 25: tables."""

import itertools
import random
import unittest

from lowsure.errors import Mismatch, NoTable, NotOdd, TooMany
from lowsure.library import Library
from lowsure.lists import count_points, points
from lowsure.tables import Table, count_tables, known_bits
from tests import plain
from tests.made import random_function


def piece(result, inputs="x", rows=""):
    return Library.read("\n".join([f"function f {inputs}", *rows.split(" ; "), f"give {result}"]).replace("\n\n", "\n")
                        ).piece("f")


def wrong_entry(loss, bits, entries):
    """The index that Table refuses, or None."""
    try:
        Table(loss, bits, entries)
    except NoTable as error:
        return error.at
    return None


def random_entries(source, loss, bits):
    """Values that a table has: random ones, but for the bits that follow from those before."""
    entries = []
    for known in known_bits(loss, bits):
        for low in range(2 ** known):
            entry = source.randrange(2 ** (bits - known)) * 2 ** known + low
            if plain.first_wrong_entry(loss, bits, [*entries, entry]) is None:
                entries.append(entry)
                break
    return entries


def made_tables():
    """Some tables, with one input and with two."""
    source = random.Random(5)
    for loss, bits in (((0,), 1), ((0,), 5), ((1,), 4), ((2,), 3), ((0, 0), 2), ((1, 0), 3), ((0, 1), 2), ((1, 1), 2)):
        yield Table(loss, bits, random_entries(source, loss, bits))


class TableTest(unittest.TestCase):

    def test_attributes(self):
        table = Table([0], 3, [0, 3, 2, 5])
        self.assertEqual((table.loss, table.bits, table.entries, table.inputs, table.most), ((0,), 3, (0, 3, 2, 5), 1, 3))
        table = Table(entries=(1,) * 8, bits=1, loss=(0, 1))
        self.assertEqual((table.loss, table.bits, table.inputs, table.most), ((0, 1), 1, 2, 1))
        self.assertIsInstance(table.entries, tuple)

    def test_entries_are_taken_modulo(self):
        self.assertEqual(Table((0,), 3, (8, -5, 10 ** 30 * 8 + 2, 2 ** 64 + 5)).entries, (0, 3, 2, 5))
        self.assertEqual(wrong_entry((0,), 3, (8, -5, 11, 5)), 2)

    def test_example(self):
        table = Table((0,), 3, (0, 3, 2, 5))
        self.assertEqual(table((5,)), 7)
        self.assertEqual(wrong_entry((0,), 3, (0, 3, 3, 5)), 2)

    def test_number_of_entries(self):
        for loss, bits in (((0,), 3), ((2,), 1), ((0, 0), 2), ((1, 0), 1)):
            count = count_points(loss, bits)
            self.assertEqual(len(Table(loss, bits, [0] * count).entries), count)
            for wrong in (0, 1, count - 1, count + 1, 2 * count):
                with self.assertRaises(Mismatch):
                    Table(loss, bits, [0] * wrong)
        # The number comes first.
        with self.assertRaises(Mismatch):
            Table((0,), 3, (0, 3, 3, 5, 1))
        with self.assertRaises(Mismatch):
            Table((0,), 3, (0, 3, 3))

    def test_emptied_lists(self):
        loss, entries = [0], [0, 3, 2, 5]
        table = Table(loss, 3, entries)
        loss.clear()
        entries.clear()
        self.assertEqual((table.loss, table.entries, table((5,))), ((0,), (0, 3, 2, 5), 7))

    def test_values_at_the_list(self):
        for table in made_tables():
            self.assertEqual([table(point) for point in points(table.loss, table.bits)], list(table.entries))

    def test_values_elsewhere(self):
        # 3 + 2 x + 5 x (x - 1) / 1 on the even integers and x ** 3 on the odd ones, to six bits.
        def value(x):
            return 3 + 2 * x + 5 * (x // 2) * (x // 2 - 1) if x % 2 == 0 else (x // 2) ** 3

        table = Table((1,), 6, [value(x) for (x,) in plain.points((1,), 6)])
        for x in (0, 1, 17, 100, -1, -50, -51, 10 ** 30, 1 - 10 ** 30, 2 ** 64 + 3):
            for bits in (None, 6, 1, 4):
                expected = value(x) % 2 ** (6 if bits is None else bits)
                self.assertEqual(table((x,), bits), expected)
                self.assertEqual(table(point=[x], bits=bits), expected)
        self.assertEqual(table((17,)), value(17) % 64)

    def test_values_elsewhere_with_two_inputs(self):
        def value(x, y):
            return (x % 4 + 1) * (x // 4) ** 2 * (y // 2) - (y % 2) * (x // 4) * (y // 2) ** 3 + 7 * (x % 4)

        table = Table((2, 1), 5, [value(x, y) for x, y in plain.points((2, 1), 5)])
        for x in (0, 3, -3, 50, 10 ** 30 + 1):
            for y in (0, 1, -6, 77, -10 ** 30):
                self.assertEqual(table((x, y)), value(x, y) % 32)
                self.assertEqual(table([x, y], 2), value(x, y) % 4)

    def test_sixty_four_bits(self):
        table = Table((0,), 64, [x ** 70 - x for x in range(66)])
        for x in (66, 1000, -1, -12345, 10 ** 30):
            self.assertEqual(table((x,)), (x ** 70 - x) % 2 ** 64)

    def test_calls_change_nothing(self):
        table = Table((0,), 3, (0, 3, 2, 5))
        point = [5]
        self.assertEqual([table(point), table(point, 1), table(point, 3), table(point)], [7, 1, 7, 7])
        self.assertEqual(point, [5])


class NoTableTest(unittest.TestCase):

    def test_all_functions_to_two_bits(self):
        accepted = [entries for entries in itertools.product(range(4), repeat=4)
                    if wrong_entry((0,), 2, entries) is None]
        polynomials = {tuple([(a + b * x + c * x * (x - 1) + d * x * (x - 1) * (x - 2)) % 4 for x in range(4)])
                       for a, b, c, d in itertools.product(range(4), repeat=4)}
        self.assertEqual(set(accepted), polynomials)
        self.assertEqual(len(accepted), 2 ** count_tables((0,), 2))
        begins = {entries[:n] for entries in accepted for n in range(5)}
        for entries in itertools.product(range(4), repeat=4):
            if entries not in polynomials:
                first = [n for n in range(4) if entries[:n + 1] not in begins][0]
                self.assertEqual(wrong_entry((0,), 2, entries), first)

    def test_one_bit(self):
        for loss in ((0,), (1,), (0, 0)):
            for entries in itertools.product(range(2), repeat=count_points(loss, 1)):
                self.assertIsNone(wrong_entry(loss, 1, entries))

    def test_each_single_value_changed(self):
        for table in made_tables():
            known = known_bits(table.loss, table.bits)
            for at, entry in enumerate(table.entries):
                for bit in range(table.bits):
                    entries = list(table.entries)
                    entries[at] = entry + 2 ** bit
                    found = wrong_entry(table.loss, table.bits, entries)
                    self.assertEqual(found, plain.first_wrong_entry(table.loss, table.bits, entries))
                    if bit < known[at]:
                        self.assertEqual(found, at)
                    elif found is None:
                        self.assertFalse(Table(table.loss, table.bits, entries) == table)

    def test_random_values(self):
        source = random.Random(6)
        for loss, bits in (((0,), 4), ((1,), 3), ((0, 0), 3), ((1, 0), 2)):
            for _ in range(50):
                step = source.choice([1, 1, 2, 4])
                entries = [step * source.randrange(2 ** bits) for _ in range(count_points(loss, bits))]
                self.assertEqual(wrong_entry(loss, bits, entries), plain.first_wrong_entry(loss, bits, entries))

    def test_far_down(self):
        # The last value of the list belongs to 65! with 63 twos: only its highest bit is free.
        entries = [x ** 5 for x in range(66)]
        self.assertIsNone(wrong_entry((0,), 64, entries))
        self.assertIsNone(wrong_entry((0,), 64, [*entries[:65], 65 ** 5 + 2 ** 63]))
        self.assertEqual(wrong_entry((0,), 64, [*entries[:65], 65 ** 5 + 2 ** 62]), 65)
        # In the second class the first values are free again.
        self.assertEqual(wrong_entry((1,), 3, [0, 0, 0, 0, 5, 1, 2, 7]), 6)


class CountTest(unittest.TestCase):

    def test_count_tables(self):
        self.assertEqual(count_tables((0,), 3), 10)
        self.assertEqual(count_tables(loss=[2], bits=3), 40)
        self.assertEqual(count_tables((0, 0), 1), 4)
        self.assertEqual(count_tables((0, 0), 2), 16)
        self.assertEqual(count_tables((0, 1), 2), 32)
        self.assertEqual(count_tables((16, 16), 1), 4 * 2 ** 32)
        for loss in ((0,), (1,), (0, 0), (1, 1)):
            for bits in (1, 2, 3, 5):
                free = [bits - sum([plain.twos(j) for j in vector]) for vector in plain.vectors(len(loss), bits)]
                self.assertEqual(count_tables(loss, bits), sum(free) * 2 ** sum(loss))

    def test_known_bits(self):
        self.assertEqual(known_bits((0,), 3), (0, 0, 1, 1))
        self.assertEqual(known_bits(loss=[1], bits=2), (0, 0, 1, 1, 0, 0, 1, 1))
        self.assertEqual(known_bits((0, 0), 2), (0, 0, 1, 1, 0, 0, 1, 1, 1, 1, 1, 1))
        self.assertIsInstance(known_bits((0,), 1), tuple)
        for loss in ((0,), (2,), (0, 0), (1, 1), (0, 2)):
            for bits in (1, 2, 3, 5):
                known = known_bits(loss, bits)
                self.assertEqual(len(known), count_points(loss, bits))
                self.assertEqual(sum([bits - number for number in known]), count_tables(loss, bits))

    def test_all_other_bits_are_free(self):
        source = random.Random(7)
        for loss, bits in (((0,), 4), ((1,), 3), ((0, 0), 2)):
            for _ in range(20):
                entries = random_entries(source, loss, bits)
                self.assertEqual(len(entries), count_points(loss, bits))
                self.assertIsNone(wrong_entry(loss, bits, entries))


class OfTest(unittest.TestCase):

    def test_pieces(self):
        table = Table.of(piece("half ( x * x + x )"), 4)
        self.assertEqual((table.loss, table.bits), ((1,), 4))
        self.assertEqual(table.entries, tuple([x * (x + 1) // 2 % 16 for (x,) in points((1,), 4)]))
        self.assertEqual(table((-7,)), 21 % 16)
        self.assertIsInstance(table, Table)
        self.assertEqual(Table.of(doer=piece("x * y", "x y"), bits=64, loss=None)((3, -5)), -15 % 2 ** 64)

    def test_tables(self):
        table = Table.of(piece("half x"), 6)
        self.assertEqual(Table.of(table, 6).entries, table.entries)
        self.assertEqual(Table.of(table, 2)((7,)), 3)
        self.assertEqual(Table.of(table, 6, (2,)).loss, (2,))
        self.assertEqual(Table.of(table, 6, [2]), table)

    def test_greater_and_lesser_losses(self):
        self.assertEqual(Table.of(piece("x"), 5, (2,)).entries, tuple([x % 32 for (x,) in points((2,), 5)]))
        # 0 times the half of x has the loss 1, but is a table with the loss 0, too.
        self.assertEqual(Table.of(piece("0 * half x"), 5, (0,)).entries, (0,) * 8)
        self.assertEqual(Table.of(piece("half x + half ( x + 1 )"), 5, (0,)).entries, tuple(range(8)))
        found = Table.of(piece("half ( 2 * x ) + y", "x y"), 5, (0, 1))
        self.assertEqual((found.loss, found((9, 4))), ((0, 1), 13))

    def test_too_small_a_loss(self):
        with self.assertRaises(NoTable) as caught:
            Table.of(piece("half x"), 5, (0,))
        self.assertEqual(caught.exception.at, 2)
        # To one bit there is a table with the values of the half at 0 and 1, but it has others elsewhere.
        with self.assertRaises(Mismatch):
            Table.of(piece("half x"), 1, (0,))
        with self.assertRaises(Mismatch):
            Table.of(piece("( if x mod 4 is 3 then 1 else 0 )"), 1, (0,))
        with self.assertRaises(Mismatch):
            Table.of(piece("x + half y", "x y"), 1, (0, 0))
        with self.assertRaises(Mismatch):
            Table.of(piece("x + half y", "x y"), 1, (1, 0))
        self.assertEqual(Table.of(piece("x + half y", "x y"), 1, (0, 1))((1, 2)), 0)

    def test_bits_and_lengths(self):
        table = Table.of(piece("x"), 6)
        for doer, bits, loss in ((table, 7, None), (table, 7, (0,)), (table, 6, (0, 0)), (table, 6, ()),
                                 (piece("x"), 65, None), (piece("x"), 3, (0, 0)), (piece("x * y", "x y"), 3, (0,))):
            with self.assertRaises(Mismatch):
                Table.of(doer, bits, loss)
        self.assertEqual(Table.of(piece("x"), 64).bits, 64)

    def test_too_many_points(self):
        for doer, bits, loss, count in ((piece("half half half x"), 64, (0,), 66 * 8), (piece("x"), 64, (6,), 66 * 64)):
            self.assertLessEqual(count, 5000)
            try:
                Table.of(doer, bits, loss)
            except NoTable:
                pass
        for doer, bits, loss, count in ((piece("x"), 64, (7,), 66 * 128),
                                        (piece("half half x * half half half y", "x y"), 64, None, 2452 * 32),
                                        (piece("half half x * y", "x y"), 64, (0, 3), 2452 * 32),
                                        (piece("half half x * y", "x y"), 64, (0, 0), 2452 * 4)):
            with self.assertRaises(TooMany) as caught:
                Table.of(doer, bits, loss)
            self.assertEqual(caught.exception.count, count)

    def test_first_error(self):
        with self.assertRaises(Mismatch):
            Table.of(piece("x"), 65, (16,))
        with self.assertRaises(Mismatch):
            Table.of(piece("half half x * half half half y", "x y"), 64, (0,))
        # TooMany for the greater loss comes before NoTable for the given one.
        with self.assertRaises(TooMany):
            Table.of(piece("half half x * y", "x y"), 64, (0, 0))

    def test_made_pieces(self):
        done = 0
        for seed in range(80):
            source = random.Random(seed)
            function = random_function(source, "f", ())
            try:
                doer = Library([function]).piece("f")
                table = Table.of(doer, 3) if doer.inputs < 3 and max(doer.loss) < 5 else None
            except (NotOdd, TooMany):
                continue
            if table is None:
                continue
            done += 1
            for _ in range(30):
                point = [source.randint(-1000, 1000) for _ in range(doer.inputs)]
                self.assertEqual(table(point), doer(point, 3))
        self.assertGreater(done, 20)

    def test_constant(self):
        for value in (0, 5, -1, 1000):
            for inputs in (1, 2):
                table = Table.constant(value, inputs, 4)
                self.assertEqual((table.loss, table.bits, table.inputs), ((0,) * inputs, 4, inputs))
                self.assertEqual(set(table.entries), {value % 16})
                self.assertEqual(table((7, -9)[:inputs]), value % 16)
        self.assertEqual(Table.constant(bits=64, inputs=1, value=-1)((3,)), 2 ** 64 - 1)


class OperatorTest(unittest.TestCase):

    def check(self, one, other):
        loss = tuple([max(pair) for pair in zip(one.loss, other.loss)])
        for table, value in ((one + other, lambda a, b: a + b), (one - other, lambda a, b: a - b),
                             (one * other, lambda a, b: a * b), (-one, lambda a, b: -a)):
            self.assertEqual(table.bits, one.bits)
            source = random.Random(8)
            for _ in range(40):
                point = [source.randint(-100, 100) for _ in range(one.inputs)]
                self.assertEqual(table(point), value(one(point), other(point)) % 2 ** one.bits)
        for table in (one + other, one - other, one * other):
            self.assertEqual(table.loss, loss)
        self.assertEqual((-one).loss, one.loss)

    def test_operators(self):
        for bits in (1, 4, 8):
            x, half, chosen = [Table.of(piece(result), bits) for result in
                               ("x * x + 3", "half x", "( if x mod 4 is 1 then x else 7 )")]
            for one in (x, half, chosen):
                for other in (x, half, chosen):
                    self.check(one, other)
        one = Table.of(piece("half x * y", "x y"), 3)
        other = Table.of(piece("x - half half y", "x y"), 3)
        self.check(one, other)
        self.check(other, one)
        self.check(other, other)

    def test_mismatch(self):
        table = Table.constant(1, 1, 3)
        for other in (Table.constant(1, 2, 3), Table.constant(1, 1, 4)):
            for run in (lambda: table + other, lambda: table - other, lambda: table * other, lambda: other + table):
                with self.assertRaises(Mismatch):
                    run()

    def test_too_many(self):
        wide = Table.of(piece("x * y", "x y"), 64, (1, 0))
        other = Table.of(piece("x * y", "x y"), 64, (0, 1))
        for run in (lambda: wide + other, lambda: wide - other, lambda: wide * other):
            with self.assertRaises(TooMany) as caught:
                run()
            self.assertEqual(caught.exception.count, 2452 * 4)
        long = Table((12,), 1, [0] * 8192)
        for run in (lambda: -long, lambda: long + long, lambda: long.half() if long.bits > 1 else long * long):
            with self.assertRaises(TooMany) as caught:
                run()
            self.assertEqual(caught.exception.count, 8192)

    def test_mismatch_comes_before_too_many(self):
        with self.assertRaises(Mismatch):
            Table((12,), 1, [0] * 8192) + Table.constant(0, 1, 2)
        with self.assertRaises(Mismatch):
            Table((12,), 1, [0] * 8192).half()

    def test_equal(self):
        table = Table.of(piece("x * x"), 5)
        self.assertTrue(table == Table.of(piece("x * x"), 5))
        self.assertTrue(table == Table.of(piece("x * x"), 5, (3,)))
        self.assertTrue(Table.of(piece("x * x"), 5, (3,)) == table)
        self.assertFalse(table != Table.of(piece("half ( 2 * x * x )"), 5))
        self.assertFalse(table == Table.of(piece("x * x"), 4))
        self.assertFalse(table == Table.of(piece("x * x + 16"), 5))
        self.assertFalse(Table.constant(0, 1, 3) == Table.constant(0, 2, 3))
        # The lists for two bits and for three are equally long.
        self.assertFalse(Table.constant(0, 1, 2) == Table.constant(0, 1, 3))
        # They differ at the even integers with an odd half only.
        self.assertFalse(Table.of(piece("0"), 1) == Table.of(piece("( if x mod 4 is 2 then 1 else 0 )"), 1))
        self.assertFalse(Table.of(piece("half x"), 1) == Table.of(piece("0"), 1))
        one = Table.of(piece("half ( 2 * x * y )", "x y"), 3)
        self.assertTrue(one == Table.of(piece("x * half ( 2 * y )", "x y"), 3))
        self.assertFalse(one == Table.of(piece("x * half ( 2 * y ) + 4 * half y", "x y"), 3))
        for other in (None, 3, table.entries, piece("x * x")):
            self.assertFalse(table == other)
            self.assertTrue(table != other)

    def test_nothing_changes(self):
        one, other = Table.of(piece("x"), 3), Table.of(piece("half x"), 3)
        before = (one.entries, other.entries, one.loss, other.loss)
        one + other, one * other, -one, one == other, other.half(), other.least_loss()
        self.assertEqual((one.entries, other.entries, one.loss, other.loss), before)


class HalfTest(unittest.TestCase):

    def test_half(self):
        table = Table.of(piece("x * x + 5"), 6).half()
        self.assertEqual((table.loss, table.bits), ((1,), 5))
        for x in (0, 1, -1, 7, 100, -333):
            self.assertEqual(table((x,)), (x * x + 5) % 64 // 2)
        table = Table.of(piece("x + half y", "x y"), 3).half()
        self.assertEqual((table.loss, table.bits), ((1, 2), 2))
        for x in range(-4, 9):
            for y in range(-8, 16):
                self.assertEqual(table((x, y)), (x + y // 2) % 8 // 2)

    def test_one_bit(self):
        for loss in ((0,), (1,), (0, 0)):
            with self.assertRaises(Mismatch):
                Table(loss, 1, [0] * count_points(loss, 1)).half()

    def test_too_many(self):
        with self.assertRaises(TooMany) as caught:
            Table.of(piece("x"), 64, (6,)).half()
        self.assertEqual(caught.exception.count, count_points((7,), 63))
        with self.assertRaises(TooMany) as caught:
            Table.of(piece("x * y", "x y"), 64).half()
        self.assertEqual(caught.exception.count, count_points((1, 1), 63))
        # The list of the half decides, with a bit less, not that of the table.
        self.assertEqual(Table((11,), 2, [0] * 8192).bits, 2)
        with self.assertRaises(TooMany):
            Table((11,), 2, [0] * 8192).half()

    def test_least_loss(self):
        for result, bits, least in (("half x", 5, 1), ("half ( 2 * x )", 5, 0), ("half x + half ( x + 1 )", 5, 0),
                                    ("half half half x", 3, 3), ("2 * half x", 5, 0), ("16 * half x", 5, 0),
                                    ("( if x mod 8 is 3 then 1 else 0 )", 4, 2), ("half ( x * x + x )", 4, 1),
                                    ("8 * half half x", 4, 0), ("2 * half half x", 4, 1), ("half half x", 4, 2),
                                    ("( if x mod 2 is 0 then 2 else 0 )", 2, 0), ("x", 5, 0)):
            found = Table.of(piece(result), bits).least_loss()
            self.assertEqual(found, least, result)
            self.assertIsInstance(found, int)
        self.assertEqual(Table.of(piece("x"), 5, (4,)).least_loss(), 0)

    def test_least_loss_is_the_least(self):
        for table in made_tables():
            if table.inputs == 1:
                wide = Table.of(table, table.bits, (table.loss[0] + 2,))
                least = wide.least_loss()
                self.assertLessEqual(least, table.loss[0])
                self.assertEqual(Table.of(wide, table.bits, (least,)), table)
                if least > 0:
                    with self.assertRaises((NoTable, Mismatch)):
                        Table.of(wide, table.bits, (least - 1,))


if __name__ == "__main__":
    unittest.main()
