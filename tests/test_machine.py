"""Promises 39, 40 and what 41 says of `Code.read`: `Machine`, `Code`."""

import random
import unittest

from lowsure.errors import InvalidCode, InvalidText
from lowsure.machine import Code, Machine
from lowsure.runs import run

ROWS = (("set", 0, 5), ("copy", 1, 2), ("add", 0, 1, 2), ("sub", 3, 4, 5), ("mul", 6, 7, 0), ("left", 1, 1),
        ("right", 7, 0), ("load", 2, 999), ("store", 0, 3), ("skip", 1, 4, 3, 0))
WRONG_ROWS = (
    [], [("set", 0, 5)], None, 5, "set", (), ("sets", 0, 5), ("", 0, 0), (0, 1, 2), (None, 1, 2), ([], 1, 2), (("set",), 1, 2),
    ("Set", 0, 5), ["set", 0, 5], ("set",), ("set", 0), ("set", 0, 1, 2), ("add", 0, 1), ("add", 0, 1, 2, 3),
    ("copy", 1), ("left", 1, 2, 3), ("right", 1), ("load", 1), ("store", 1, 2, 3), ("skip", 1, 2, 0), ("skip", 1, 2, 0, 0, 0),
    ("set", 8, 5), ("set", -1, 5), ("set", True, 5), ("set", 0, 2 ** 64), ("set", 0, -2 ** 64), ("set", 0, True),
    ("set", 0, "5"), ("set", 0, None), ("set", "0", 5), ("set", 0, 5.0), ("copy", 8, 0), ("copy", 0, 8), ("copy", 0, False),
    ("add", 0, 0, 8), ("add", 0, -1, 0), ("sub", 0, 9, 0), ("mul", 8, 0, 0), ("left", 0, 8), ("right", 8, 0),
    ("load", 0, 1000), ("load", 0, -1), ("load", 8, 0), ("store", 1000, 0), ("store", -1, 0), ("store", 0, 8),
    ("skip", 8, 2, 0, 0), ("skip", 0, 0, 0, 0), ("skip", 0, 3, 0, 0), ("skip", 0, 128, 0, 0), ("skip", 0, -2, 0, 0),
    ("skip", 0, True, 0, 0), ("skip", 0, 2, 2, 0), ("skip", 0, 1, 1, 0), ("skip", 0, 64, 64, 0), ("skip", 0, 2, -1, 0),
    ("skip", 0, 2, False, 0), ("skip", 0, 2, 0, -1), ("skip", 0, 2, 0, 1001), ("skip", 0, 2, 0, True),
    ("skip", 0, 2, 0, "1"))
NOTHING = ("set", 0, 0)


class MachineTest(unittest.TestCase):

    def test_machines(self):
        machine = Machine(width=16, registers=4)
        self.assertEqual((machine.width, machine.registers), (16, 4))
        self.assertEqual(machine, Machine(16, 4))
        self.assertNotEqual(machine, Machine(16, 5))
        self.assertNotEqual(machine, Machine(15, 4))
        self.assertNotEqual(machine, Machine(4, 16))
        self.assertFalse(machine == (16, 4))


class CodeTest(unittest.TestCase):

    def check_invalid(self, rows, word, row):
        with self.assertRaises(InvalidCode) as caught:
            Code(rows)
        self.assertEqual((caught.exception.word, caught.exception.row), (word, row))

    def test_rows(self):
        code = Code(ROWS)
        self.assertEqual(code.rows, ROWS)
        self.assertEqual(len(code), 10)
        rows = list(ROWS)
        code = Code(rows=rows)
        rows.pop()
        self.assertEqual((code.rows, type(code.rows)), (ROWS, tuple))
        self.assertEqual((Code(()).rows, len(Code([]))), ((), 0))

    def test_equality(self):
        self.assertEqual(Code(ROWS), Code(list(ROWS)))
        self.assertNotEqual(Code(ROWS), Code(ROWS[:-1]))
        self.assertNotEqual(Code(ROWS), Code(ROWS[::-1]))
        self.assertFalse(Code(ROWS) == ROWS)
        self.assertTrue(Code(()) != None)

    def test_bounds(self):
        for row in (("set", 7, 2 ** 64 - 1), ("set", 0, 1 - 2 ** 64), ("load", 7, 0), ("store", 999, 7),
                    ("skip", 7, 64, 63, 0), ("skip", 0, 1, 0, 0), ("skip", 3, 32, 0, 0), ("mul", 7, 7, 7)):
            self.assertEqual(Code([row]).rows, (row,))
        for modulus in (1, 2, 4, 8, 16, 32, 64):
            Code([("skip", 0, modulus, modulus - 1, 1), NOTHING])

    def test_wrong_rows(self):
        for row in WRONG_ROWS:
            self.check_invalid([row], "row", 0)
            self.check_invalid([NOTHING, ("skip", 0, 2, 0, 1), row, NOTHING], "row", 2)

    def test_count(self):
        self.assertEqual(len(Code([NOTHING] * 1000)), 1000)
        self.check_invalid([NOTHING] * 1001, "count", -1)
        self.check_invalid([("set",)] * 1001, "count", -1)
        Code([("skip", 0, 2, 0, 999), *[NOTHING] * 999])
        self.check_invalid([("skip", 0, 2, 0, 1000), *[NOTHING] * 999], "skip", 0)

    def test_skips(self):
        for rows in range(6):
            for at in range(rows):
                for many in range(8):
                    code = [NOTHING] * rows
                    code[at] = ("skip", 0, 2, 1, many)
                    if at + 1 + many <= rows:
                        self.assertEqual(Code(code).rows, tuple(code))
                    else:
                        self.check_invalid(code, "skip", at)

    def test_two_at_once(self):
        far, wrong = ("skip", 0, 2, 0, 9), ("set", 8, 0)
        self.check_invalid([far, wrong], "skip", 0)
        self.check_invalid([wrong, far], "row", 0)
        self.check_invalid([NOTHING, far, far], "skip", 1)
        self.check_invalid([NOTHING, wrong, wrong], "row", 1)
        self.check_invalid([("skip", 8, 2, 0, 9)], "row", 0)
        self.check_invalid([("skip", 0, 2, 0, 1001)], "row", 0)

    def test_without(self):
        rows = [("set", 0, 1), ("skip", 0, 2, 0, 3), ("skip", 1, 1, 0, 1), ("set", 0, 2), ("set", 0, 3), ("set", 0, 4)]
        gone = {0: [("skip", 0, 2, 0, 3), *rows[2:]],
                1: [rows[0], *rows[2:]],
                2: [rows[0], ("skip", 0, 2, 0, 2), *rows[3:]],
                3: [rows[0], ("skip", 0, 2, 0, 2), ("skip", 1, 1, 0, 0), *rows[4:]],
                4: [rows[0], ("skip", 0, 2, 0, 2), *rows[2:4], rows[5]],
                5: rows[:5]}
        code = Code(rows)
        for at, left in gone.items():
            self.assertEqual(code.without(at).rows, tuple(left), at)
            self.assertEqual(code.without(at=at), Code(left))
        self.assertEqual(code.rows, tuple(rows))
        end = Code([("skip", 0, 2, 0, 1), NOTHING])
        self.assertEqual([end.without(0).rows, end.without(1).rows], [(NOTHING,), (("skip", 0, 2, 0, 0),)])
        self.assertEqual(Code([("skip", 0, 2, 0, 0), NOTHING]).without(1).rows, (("skip", 0, 2, 0, 0),))

    def test_without_a_row_that_does_nothing(self):
        source = random.Random(5)
        for _ in range(100):
            rows = [("mul", 0, 0, 1), ("add", 1, 0, 2), ("skip", 1, 4, 2, source.randint(0, 3)), ("left", 0, 0),
                    ("skip", 0, 2, 1, 2), ("set", 2, 77), ("add", 0, 0, 1), ("sub", 0, 1, 0)]
            code = Code(rows)
            at = source.randint(0, 8)
            # The row is put in as `without` takes it out.
            longer = [("skip", *row[1:4], row[4] + 1) if row[0] == "skip" and index < at <= index + row[4] else row
                      for index, row in enumerate(rows)]
            longer.insert(at, ("copy", 2, 2))
            self.assertEqual(Code(longer).without(at), code)
            for point in ((1, 2), (5, 7), (3, 3), (8, 6)):
                self.assertEqual(run(Machine(8, 3), code, point), run(Machine(8, 3), Code(longer), point))


class ReadTest(unittest.TestCase):

    def check_text(self, text, at):
        with self.assertRaises(InvalidText) as caught:
            Code.read(text)
        self.assertEqual(caught.exception.at, at, text)

    def check_invalid(self, text, word, row):
        with self.assertRaises(InvalidCode) as caught:
            Code.read(text=text)
        self.assertEqual((caught.exception.word, caught.exception.row), (word, row), text)

    def test_all_rows(self):
        text = "\n".join([" ".join([str(item) for item in row]) for row in ROWS])
        self.assertEqual(Code.read(text).rows, ROWS)
        self.assertEqual(Code.read(""), Code(()))
        self.assertEqual(Code.read("set 7 -18446744073709551615").rows, (("set", 7, 1 - 2 ** 64),))
        self.assertEqual(Code.read("set 0 0\nskip 7 64 63 0").rows, (("set", 0, 0), ("skip", 7, 64, 63, 0)))
        self.assertEqual(Code.read("\n".join(["left 0 0"] * 400)), Code([("left", 0, 0)] * 400))

    def test_texts_that_are_none(self):
        for row in (" ", "set", "set 0", "set 0 1 2", " set 0 1", "set 0 1 ", "set  0 1", "sets 0 1", "SET 0 1", "set,0,1",
                    "set 0 x", "set x 0", "set 0 --1", "set 0 -0", "set 0 01", "set 0 +1", "set 00 1", "set -1 1",
                    "set 0 1.0", "set 0 -", "set 0 1_0", "copy 0 -1", "copy 0", "copy 0 1 2", "add 0 1", "add 0 1 -2",
                    "sub 0 1 2 3", "mul", "left 0", "left 0 01", "right 0 1 2", "right 0 -1", "load 0 -1", "load 0",
                    "store -1 0", "store 0 0 0", "skip 0 2 0", "skip 0 2 0 -1", "skip 0 2 0 0 0", "skip 0 -2 0 0",
                    "set 0 100000000000000000000", "set 0 -100000000000000000000", "copy 0 100000000000000000000",
                    "set 0 " + "1" * 3000, "nop", "set\t0 1", "0 1 2", "set 0 \u0661"):
            self.check_text(row, 0)
            self.check_text("copy 0 1\nleft 1 1\n" + row + "\nsets", 2)
        self.check_text("set 0 1\n", 1)
        self.check_text("\n", 0)
        self.check_text("\nset 0 1", 0)
        self.check_text("set 0 1\n\nset 0 1", 1)

    def test_texts_before_rows(self):
        # What is no text at all is told first, wherever it is; then what `Code` tells.
        self.check_text("set 8 0\nskip 0 2 0 9\nset 0", 2)
        self.check_invalid("set 0 1\nset 8 0", "row", 1)
        self.check_invalid("set 0 99999999999999999999", "row", 0)
        self.check_invalid("set 0 18446744073709551616", "row", 0)
        self.check_invalid("copy 0 99999999999999999999", "row", 0)
        self.check_invalid("skip 0 3 0 0", "row", 0)
        self.check_invalid("skip 0 2 2 0", "row", 0)
        self.check_invalid("skip 0 2 1 1", "skip", 0)
        self.check_invalid("load 0 1000", "row", 0)
        self.check_invalid("\n".join(["skip 0 2 1 1"] * 1001), "count", -1)


if __name__ == "__main__":
    unittest.main()
