"""Promise 26: `function_of` and `learned`."""

import random
import unittest

from lowsure.agreement import agree
from lowsure.errors import NoTable
from lowsure.library import Library
from lowsure.librarytexts import show_library
from lowsure.lists import count_points, points
from lowsure.rows import Function
from lowsure.tables import Table
from lowsure.tabletexts import function_of, learned
from tests.made import random_node
from tests.plain import first_wrong_entry

RESULTS = ("0", "7", "-1", "x", "-x", "x * x", "half x", "half half x", "half ( x * x + x )", "x over 3", "3 to x",
           "x ** 17", "( 2 * x + 1 ) to x", "( if x mod 2 is 0 then x else 3 )",
           "( if x mod 4 is 3 then x else half half x )",
           "( 4 * half x + 1 ) to x", "half ( 5 to x )", "1 over ( x * x + x + 1 )", "half half ( x ** 4 - x ** 3 ) over 7",
           "( if half x mod 2 is 1 then x ** 9 else x over ( 4 * x - 3 ) )", "x ** 16 * ( x - 1 ) ** 5")


def piece(result):
    return Library.read(f"function f x\ngive {result.replace('-1', '( -1 )').replace('-x', '( 0 - x )')}").piece("f")


def drawn_table(source, loss, bits):
    """A table whose entries are drawn one by one."""
    entries = []
    while len(entries) < count_points(loss, bits):
        entries.append(source.randrange(2 ** bits))
        while first_wrong_entry(loss, bits, entries) is not None:
            entries[-1] = (entries[-1] + 1) % 2 ** bits
    return Table(loss, bits, entries)


class FunctionOfTest(unittest.TestCase):

    def check(self, table, name="k"):
        """Checks all that is promised; returns the function."""
        function = function_of(table, name)
        self.assertEqual((type(function), function.name, len(function.inputs)), (Function, name, 1))
        library = Library([function])
        found = library.piece(name)
        self.assertEqual(agree(found, table), (table.bits, None))
        self.assertLessEqual(found.loss[0], table.loss[0])
        far = [0, 1, -1, 5, -6, 2 ** 70 + 3, -2 ** 70 - 2, 10 ** 30 - 1, 1 - 10 ** 30, 12345678901234567890]
        self.assertEqual([found((x,), table.bits) for x in far], [table((x,)) for x in far])
        self.check_text(library)
        return function

    def check_text(self, library):
        """The text is read again, if it is within the limits."""
        text = show_library(library)
        opened = max([row[:at].count("(") - row[:at].count(")") for row in text.split("\n") for at in range(len(row) + 1)])
        if len(text) <= 4000 and opened <= 20 and max([len(row.split(" ")) for row in text.split("\n")]) <= 200:
            self.assertEqual(Library.read(text), library)
            return True
        return False

    def test_pieces(self):
        for result in RESULTS:
            for bits in (1, 2, 3, 5, 8, 12, 16):
                whole = piece(result)
                if whole.loss[0] <= 2:
                    self.check(Table.of(whole, bits))
                for loss in (0, 1, 2):
                    if loss >= whole.loss[0]:
                        self.check(Table.of(whole, bits, (loss,)))

    def test_constants(self):
        for value in (0, 1, -1, 6, 2 ** 16 - 1, 2 ** 15, 10 ** 20):
            for bits in (1, 2, 9, 16):
                self.check(Table.constant(value, 1, bits))
                for loss in (1, 2):
                    function = self.check(Table((loss,), bits, [value] * count_points((loss,), bits)))
                    self.assertEqual(Library([function]).piece("k").loss, (0,))

    def test_drawn_tables(self):
        for seed in range(40):
            source = random.Random(seed)
            self.check(drawn_table(source, (source.randint(0, 2),), source.choice([1, 2, 3, 4, 6, 9])))

    def test_drawn_functions(self):
        made = 0
        for seed in range(250):
            source = random.Random(seed)
            try:
                found = Library([Function("f", ("x",), (), random_node(source, ("x",), (), 3, "+-*hcrp/"))]).piece("f")
            except ValueError:
                continue
            if found.loss[0] <= 2:
                made += 1
                self.check(Table.of(found, source.randint(1, 16)))
        self.assertGreater(made, 100)

    def test_greatest(self):
        """Tables of 16 bits that have all coefficients, on two classes and on four."""
        source = random.Random(3)
        for loss in (0, 1, 2):
            table = Table((loss,), 16, [0] * count_points((loss,), 16))
            for _ in range(3):
                odd = source.randrange(1, 1000, 2)
                table = table + Table.of(piece(f"( {odd} + 4 * x ) to ( x ** 3 + {odd} )"), 16)
                if loss:
                    table = table + Table.of(piece(f"( {odd} + 2 * half x ) to half x"), 16)
            self.check(table)
            library = Library([self.check(table)])
            self.assertTrue(self.check_text(library))

    def test_names(self):
        table = Table.of(piece("half x + 1"), 6)
        for name in ("x", "z", "a", "k", "longname", "f"):
            self.assertEqual(self.check(table, name).name, name)

    def test_called_by_another_function(self):
        for result in ("half ( x * x + x )", "3 to x", "( if x mod 4 is 1 then x else half x )"):
            table = Table.of(piece(result), 12)
            caller = Library.read("function tab x\ngive x\nfunction f u v\nlet a = tab ( half u )\n"
                                  "give tab ( a + v ) - tab ( 3 )")
            library = caller.edited(function_of(table, "tab"))
            one, most = library.piece("f"), 4
            for u, v in ((0, 0), (5, -7), (10 ** 25, -10 ** 25), (-1, 2 ** 60)):
                value = table((table((u // 2,)) + v,)) - table((3,))
                self.assertEqual(one((u, v), most), value % 2 ** most)

    def test_arguments(self):
        table = Table((0,), 3, (0, 3, 2, 5))
        function = function_of(name="k", table=table)
        self.assertEqual(function, function_of(table, "k"))
        self.assertEqual(Table.of(Library([function]).piece("k"), 3), table)
        self.assertEqual(table, Table((0,), 3, (0, 3, 2, 5)))


class LearnedTest(unittest.TestCase):

    def check_learned(self, ask, loss, bits):
        """Learns, and checks what has been asked."""
        asked = []

        def ask_and_note(point):
            asked.append(point)
            return ask(point)

        try:
            return learned(ask_and_note, loss, bits)
        finally:
            self.assertEqual(asked, list(points(loss, bits)))
            self.assertEqual({type(point) for point in asked}, {tuple})

    def test_values(self):
        for result in RESULTS:
            found = piece(result)
            for bits in (1, 4, 16, 20):
                table = self.check_learned(lambda point: found(point, bits), found.loss, bits)
                self.assertEqual(table, Table.of(found, bits))
        two = Library.read("function f x y\ngive x * half y + ( if x mod 2 is 1 then y else 3 to x )").piece("f")
        self.assertEqual(self.check_learned(two, two.loss, 6), Table.of(two, 6))
        self.assertEqual(self.check_learned(lambda point: point[0] - 3 * point[1], [0, 0], 9).loss, (0, 0))

    def test_multiples_of_the_modulus(self):
        source = random.Random(1)
        for bits in (1, 3, 8):
            found = piece("half ( x * x + x )")
            table = self.check_learned(lambda point: found(point, bits) + 2 ** bits * source.randint(-9 ** 30, 9 ** 30),
                                       (1,), bits)
            self.assertEqual(table, Table.of(found, bits))
            self.assertEqual(table.entries, Table.of(found, bits).entries)

    def test_values_that_no_table_has(self):
        for loss, bits, ask in (((0,), 3, lambda point: (0, 3, 3, 5)[point[0]]), ((0,), 8, lambda point: point[0] // 2),
                                ((1,), 8, lambda point: point[0] // 4), ((0, 0), 4, lambda point: point[0] // 2 + point[1])):
            with self.assertRaises(NoTable) as caught:
                self.check_learned(ask, loss, bits)
            entries = [ask(point) for point in points(loss, bits)]
            self.assertEqual(caught.exception.at, first_wrong_entry(loss, bits, entries))

    def test_ask_that_learns(self):
        def ask(point):
            inner = learned(lambda other: other[0] * point[0], (0,), 5)
            return inner((3,)) + learned(lambda other: 1, (1,), 2)((7,))

        self.assertEqual(self.check_learned(ask, (0,), 5), Table.of(piece("3 * x + 1"), 5))

    def test_errors_of_ask(self):
        def ask(point):
            raise KeyError(point)

        with self.assertRaises(KeyError):
            learned(ask, (0,), 3)

    def test_arguments(self):
        loss = [1]
        table = learned(bits=4, loss=loss, ask=lambda point: point[0] // 2)
        loss[0] = 0
        self.assertEqual((table.loss, table.bits, table), ((1,), 4, Table.of(piece("half x"), 4)))


if __name__ == "__main__":
    unittest.main()
