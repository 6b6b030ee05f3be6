"""Promise 41: the texts of code."""

import random
import unittest

from lowsure.codetexts import show_code
from lowsure.library import Library
from lowsure.machine import Code, Machine
from lowsure.making import make
from tests.made import random_rows
from tests.test_machine import ROWS

TEXT = """set 0 5
copy 1 2
add 0 1 2
sub 3 4 5
mul 6 7 0
left 1 1
right 7 0
load 2 999
store 0 3
skip 1 4 3 0"""


class CodeTextsTest(unittest.TestCase):

    def test_each_word(self):
        self.assertEqual(show_code(Code(ROWS)), TEXT)
        self.assertEqual(Code.read(TEXT), Code(ROWS))
        for row in ROWS:
            self.assertEqual(show_code(Code([row])), " ".join(map(str, row)))

    def test_no_rows(self):
        self.assertEqual(show_code(Code(())), "")
        self.assertEqual(Code.read(show_code(Code([]))), Code(()))

    def test_numbers(self):
        for number in (0, 1, -1, -7, 10, 2 ** 64 - 1, 1 - 2 ** 64, 10 ** 19, -10 ** 19, 12345678901234567890):
            code = Code([("set", 3, number)])
            self.assertEqual(show_code(code), f"set 3 {number}")
            self.assertEqual(Code.read(show_code(code)), code)
        self.assertEqual(len(str(2 ** 64 - 1)), 20)

    def test_read_again(self):
        for seed in range(200):
            source = random.Random(seed)
            code = Code(random_rows(source, 8, source.randint(0, 12)))
            self.assertEqual(Code.read(show_code(code)), code)

    def test_made_code(self):
        piece = Library.read("function f x y\ngive ( if x mod 8 is 3 then y over 7 else -9 * x ** 5 )").piece("f")
        code = make(Machine(32, 3), piece, 20)
        text = show_code(code)
        self.assertEqual(Code.read(text), code)
        self.assertEqual(len(text.split("\n")), len(code))

    def test_arguments(self):
        code = Code([("set", 0, 1), ("left", 0, 0)])
        self.assertEqual(show_code(code=code), "set 0 1\nleft 0 0")
        self.assertEqual(show_code(code), show_code(code))


if __name__ == "__main__":
    unittest.main()
