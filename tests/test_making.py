"""Promise 48: `make`, and the reasons for which it makes nothing."""

import random
import unittest

from lowsure.errors import CannotMake, TooMany
from lowsure.library import Library
from lowsure.machine import Code, Machine
from lowsure.making import make
from lowsure.measures import cost, depth_of, need_bits
from lowsure.rightness import wrong_at
from lowsure.runs import run
from lowsure.ways import code_depth, code_loss
from tests.test_measures import made_libraries, piece


class MakingTest(unittest.TestCase):

    def check(self, machine, found, bits, source):
        """Makes code and checks all that is promised of it; returns the code."""
        code = make(machine, found, bits)
        self.assertIsInstance(code, Code)
        try:
            self.assertIsNone(wrong_at(machine, code, found, bits))
        except TooMany:
            pass
        for at, (mine, most) in enumerate(zip(code_loss(machine, code, found.inputs), found.loss)):
            self.assertLessEqual(mine, most, at)
        self.assertLessEqual(code_depth(machine, code), depth_of(found))
        self.assertLessEqual(len([row for row in code.rows if row[0] == "right"]), cost(found) // 10)
        for _ in range(6):
            point = [source.choice([source.randint(-9, 9), source.randint(-10 ** 30, 10 ** 30)]) for _ in found.loss]
            fills = [source.randint(0, 1) for _ in range(source.choice([0, 3, 200]))]
            self.assertEqual(run(machine, code, point, fills) % 2 ** bits, found(point, bits))
        return code

    def check_no_code(self, machine, found, bits, word):
        with self.assertRaises(CannotMake) as caught:
            make(machine, found, bits)
        self.assertEqual(caught.exception.word, word)


class RightTest(MakingTest):

    def test_each_node(self):
        source = random.Random(1)
        for result in ("7", "-7", "18446744073709551615", "x", "y", "z", "x + y", "y - x", "x * z", "half y", "half half 9",
                       "x over 3", "( x * y ) over ( 2 * z + 1 )", "1 over ( 4 * half x - 1 )", "x ** 0", "x ** 1", "y ** 2",
                       "z ** 7", "half x ** 64", "( if x mod 2 is 0 then y else z )", "( if y mod 64 is 63 then 1 else 2 )",
                       "( if half x mod 4 is 2 then half y else x over 5 )", "x over ( y * y + y - 1 )"):
            found = piece(result, "x y z")
            for machine in (Machine(64, 3), Machine(32, 8), Machine(16, 4)):
                for bits in (1, 3, machine.width - 10):
                    self.check(machine, found, bits, source)

    def test_rows(self):
        source = random.Random(2)
        for rows, result in ((["let a = x * y", "let b = a - half a"], "a * b"), (["let a = half half x"], "y"),
                             (["let a = x", "let b = a", "let c = b"], "c"), (["let a = 5", "let b = 6"], "a - b")):
            self.check(Machine(16, 3), piece(result, "x y", rows), 12, source)
        for times in range(18):
            rows = [f"repeat s , t = half x , y by t , s * t + 1 times {times}", f"repeat u = s by u * u - 3 times {times}"]
            found = piece("s + 2 * t - u", "x y", rows)
            if times == 17:
                self.check_no_code(Machine(20, 3), found, 15, "repeat")
            elif cost(found) <= 1000:
                self.check(Machine(20, 3), found, 15, source)
        for steps in ("s , t", "t , s", "7 , s", "s , s + t"):
            for times in (0, 1, 2, 16):
                row = f"repeat s , t = x , y by {steps} times {times}"
                self.check(Machine(20, 3), piece("s - 3 * t", "x y", [row]), 20, source)

    def test_calls(self):
        source = random.Random(3)
        before = "\n".join(["function g a b", "let u = half a", "give u * b + 1", "function h a",
                            "repeat s = a by 3 * s + 1 times 3", "give g ( s , half a )", "function one a", "give a",
                            "function two a b", "give one ( b )"])
        for result in ("g ( x , y )", "g ( y , x )", "h ( g ( x , y ) )", "g ( h ( x ) , 7 )", "one ( x )", "two ( x , half y )",
                       "g ( g ( x , x ) , g ( y , x ) )", "two ( one ( y ) , one ( x ) ) + one ( 3 )"):
            for registers in (3, 5, 8):
                self.check(Machine(32, registers), piece(result, before=before), 20, source)

    def test_made_pieces(self):
        made = 0
        source = random.Random(4)
        for library, _ in made_libraries(300):
            for name in library.names:
                machine = Machine(source.choice([4, 8, 12, 16, 32, 64]), source.randint(3, 8))
                bits = source.randint(1, machine.width)
                try:
                    self.check(machine, library.piece(name), bits, source)
                    made += 1
                except CannotMake as error:
                    self.check_reason(error.word, machine, library, name, bits)
        self.assertGreater(made, 80)

    def check_reason(self, word, machine, library, name, bits):
        found = library.piece(name)
        needed = max(need_bits(found, bits), 2 * depth_of(found) + 2)
        if word == "width":
            self.assertGreater(needed, machine.width)
        elif word == "rows":
            self.assertGreater(cost(found), 1000)
            self.assertLessEqual(needed, machine.width)

    def test_small_machines(self):
        source = random.Random(5)
        for width in (4, 5, 6):
            for bits in range(1, width):
                self.check(Machine(width, 3), piece("half ( x * y + 1 )"), bits, source)
                self.check(Machine(width, 3), piece("( if x mod 2 is 1 then y else 5 )"), bits, source)
                self.check(Machine(width, 3), piece("( x + y ) over 3"), bits, source)

    def test_dear_pieces(self):
        source = random.Random(6)
        for result in (" + ".join(["x"] * 67), " * ".join(["x"] * 67), "half ( " * 6 + "x" + " )" * 6 + " + x" * 60,
                       "( x over 3 ) + ( y over 5 ) + ( x over 7 ) + ( y over 9 )", "x ** 64", "x ** 30 + y ** 33",
                       "x " + "+ ( if y mod 2 is 0 then x else y ) " * 33):
            found = piece(result.strip())
            self.assertLessEqual(cost(found), 1000)
            self.assertGreater(cost(found), 850)
            code = self.check(Machine(64, 3), found, 20, source)
            self.assertLessEqual(len(code), 1000)
        # Names and numbers as steps cost nothing, or little.
        rows = [f"repeat {a}s , {a}t = x , y by {a}t , {a}s times 16" for a in "abcdefg"]
        self.check(Machine(16, 3), piece("as + bt + gs", "x y", rows), 16, source)
        rows = [f"repeat {a}s , {a}t = x , 9 by 5 , 6 times 16" for a in "abcdefg"]
        self.check(Machine(16, 3), piece("as + bt + gs", "x y", rows), 16, source)

    def test_many_calls(self):
        source = random.Random(7)
        before = ["function g a b", *[f"let {name} = a" for name in "cdefhij"], "give j"]
        before += ["function h a b", "give g ( a , b ) + g ( b , a ) + g ( a , a )"]
        found = piece("h ( x , y ) + h ( y , h ( x , y ) ) + g ( x , x )", before="\n".join(before))
        self.check(Machine(16, 3), found, 16, source)
        self.assertLessEqual(cost(found), 1000)

    def test_arguments(self):
        found, machine = piece("x + y"), Machine(16, 3)
        code = make(machine=machine, piece=found, bits=9)
        make(machine, piece("x * y"), 16)
        self.assertEqual(code, make(machine, found, 9))


class NoCodeTest(MakingTest):

    def test_raised(self):
        machine = Machine(64, 3)
        before = "function g a\ngive 3 to a\nfunction h a\ngive g ( 2 * a )\nfunction k a\ngive a"
        self.check_no_code(machine, piece("3 to x"), 1, "raised")
        self.check_no_code(machine, piece("y", rows=["let a = 3 to x"]), 1, "raised")
        self.check_no_code(machine, piece("a", rows=["repeat a = half ( 3 to x ) by a + 1 times 2"]), 1, "raised")
        self.check_no_code(machine, piece("g ( x )", before=before), 1, "raised")
        self.check_no_code(machine, piece("y", rows=["let a = h ( x )"], before=before), 1, "raised")
        self.check(machine, piece("k ( x )", before=before), 1, random.Random(1))

    def test_repeat(self):
        machine = Machine(64, 3)
        before = "function g a\nrepeat s = a by s times 17\ngive s\nfunction h a\ngive g ( 2 * a )\nfunction k a\ngive a"
        for times, word in ((16, None), (17, "repeat"), (10 ** 18, "repeat")):
            found = piece("x", rows=[f"repeat s = x by s times {times}"])
            if word:
                self.check_no_code(machine, found, 5, word)
            else:
                self.check(machine, found, 5, random.Random(1))
        self.check_no_code(machine, piece("g ( x )", before=before), 5, "repeat")
        self.check_no_code(machine, piece("x", rows=["let a = h ( x )"], before=before), 5, "repeat")
        self.check(machine, piece("k ( x )", before=before), 5, random.Random(1))

    def test_width(self):
        found = piece("half half x")
        self.check(Machine(10, 3), found, 8, random.Random(1))
        self.check_no_code(Machine(10, 3), found, 9, "width")
        self.check_no_code(Machine(10, 3), piece("x"), 11, "width")
        self.check(Machine(10, 3), piece("x"), 10, random.Random(1))
        # The depth alone: 2 * depth + 2 bits.
        self.check_no_code(Machine(5, 3), found, 1, "width")
        self.check(Machine(6, 3), found, 1, random.Random(1))
        self.check_no_code(Machine(13, 3), piece("( if x mod 64 is 0 then 1 else y )"), 1, "width")
        self.check(Machine(14, 3), piece("( if x mod 64 is 0 then 1 else y )"), 1, random.Random(1))
        # A row that nothing names is needed, too.
        self.check_no_code(Machine(10, 3), piece("x", rows=["let a = half y"]), 10, "width")
        self.check(Machine(10, 3), piece("x", rows=["let a = half y"]), 9, random.Random(1))

    def test_rows(self):
        # x ** 64 costs 962; a row that binds a name to a number costs 7, one to a name 5.
        for numbers, names, word in ((4, 2, None), (2, 5, "rows")):
            rows = [f"let {letter} = {'7' if at < numbers else 'x'}" for at, letter in enumerate("abcdefg"[:numbers + names])]
            found = piece("x ** 64", "x", rows)
            self.assertEqual(cost(found), 1001 if word else 1000)
            for machine in (Machine(64, 3), Machine(4, 8)):
                if word:
                    self.check_no_code(machine, found, 3, word)
                else:
                    self.check(machine, found, 3, random.Random(1))
        self.check_no_code(Machine(64, 3), piece("x over 3 + x over 5 + x over 7 + x over 9 + x over 11"), 3, "rows")

    def test_two_at_once(self):
        narrow = Machine(4, 3)
        raised, often = "let a = 3 to x", "repeat s = x by s * s times 10000"
        self.check_no_code(narrow, piece("half half x", rows=[often, raised]), 4, "raised")
        self.check_no_code(narrow, piece("half half x", rows=[often]), 4, "repeat")
        self.check_no_code(narrow, piece("half half x ** 64 + x ** 64"), 4, "width")
        self.check_no_code(Machine(64, 3), piece("half half x ** 64 + x ** 64"), 4, "rows")


if __name__ == "__main__":
    unittest.main()
