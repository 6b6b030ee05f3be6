"""Promises 4, 5, 16 and 19: the values of pieces."""

import random
import time
import unittest

from lowsure.errors import NotOdd
from lowsure.library import Library
from lowsure.lists import points
from lowsure.nodes import Multiply, Name, Number
from lowsure.rows import Function, Repeat
from tests import plain
from tests.made import random_function, random_step


def piece(result, inputs="x", rows=""):
    """The piece of a function that is told in one row."""
    text = "\n".join([f"function f {inputs}", *[row for row in rows.split(" ; ") if row], f"give {result}"])
    return Library.read(text).piece("f")


def often(step, times, states="s"):
    """The piece of the first state after some rounds."""
    names = states.split(" , ")
    inputs = ["x", "y"][:len(names)]
    row = f"repeat {states} = {' , '.join(inputs)} by {step} times {times}"
    return piece(names[0], " ".join(inputs), row)


def after(function, state, times):
    """The state after some rounds of a function over few states: the rounds come back sooner or later."""
    seen, order = {}, []
    while state not in seen:
        seen[state] = len(order)
        order.append(state)
        state = function(state)
    begin = seen[state]
    return order[times] if times < begin else order[begin + (times - begin) % (len(order) - begin)]


class ValueTest(unittest.TestCase):

    def test_integers(self):
        for n in (0, 1, -1, 5, -3, 2 ** 64, -2 ** 70 - 1, 10 ** 30, -10 ** 30):
            for bits in (1, 2, 7, 63, 64):
                self.assertEqual(piece("x")((n,), bits), n % 2 ** bits)
                self.assertEqual(piece("x")((n,)), n % 2 ** 64)
        for n in (0, -1, 2 ** 64 - 1, 1 - 2 ** 64):
            self.assertEqual(piece(str(n))((0,)), n % 2 ** 64)

    def test_sums_differences_products(self):
        for x in (0, 3, -7, 10 ** 30, -10 ** 30 + 1):
            for y in (1, -2, 10 ** 29):
                for bits in (1, 5, 64):
                    self.assertEqual(piece("x + y", "x y")((x, y), bits), (x + y) % 2 ** bits)
                    self.assertEqual(piece("x - y", "x y")((x, y), bits), (x - y) % 2 ** bits)
                    self.assertEqual(piece("x * y", "x y")((x, y), bits), x * y % 2 ** bits)
                    self.assertEqual(piece("x ** 5 * y ** 0", "x y")((x, y), bits), x ** 5 % 2 ** bits)

    def test_half(self):
        self.assertEqual(piece("half x")((-3,)), 2 ** 64 - 2)
        for x in (0, 1, 2, 3, -1, -2, 2 ** 64, 2 ** 65 - 1, 10 ** 30, -10 ** 30 - 1):
            for bits in (1, 3, 64):
                self.assertEqual(piece("half x")((x,), bits), x // 2 % 2 ** bits)
                self.assertEqual(piece("half half half x")((x,), bits), x // 8 % 2 ** bits)
        self.assertEqual(piece("half half half half half half ( 64 * x )")((2 ** 63 + 5,)), 2 ** 63 + 5)

    def test_quotient(self):
        self.assertEqual(piece("1 over 3")((0,), 4), 11)
        self.assertEqual(piece("x over 3")((21,)), 7)
        for x in (0, 5, -9, 10 ** 30):
            for y in (0, 1, -1, 77, -10 ** 20):
                for bits in (1, 2, 3, 4, 31, 64):
                    found = piece("x over ( 2 * y + 1 )", "x y")((x, y), bits)
                    self.assertEqual((found * (2 * y + 1) - x) % 2 ** bits, 0)
                    self.assertTrue(0 <= found < 2 ** bits)
        # The half of 1 over 3, whose low five bits are 01011.
        self.assertEqual(piece("half ( 1 over 3 )")((0,), 4), 5)

    def test_raised(self):
        self.assertEqual(piece("3 to -1")((0,)), piece("1 over 3")((0,)))
        self.assertEqual(piece("3 to ( 1 over 3 )")((0,), 8), pow(3, pow(3, -1, 256), 256))
        for x in (0, 1, -4, 10 ** 6):
            for y in (0, 1, 2, -1, -5, 10 ** 30, 2 ** 64):
                for bits in (1, 2, 3, 8, 64):
                    self.assertEqual(piece("( 2 * x + 1 ) to y", "x y")((x, y), bits),
                                     pow(2 * x + 1, y % 2 ** bits, 2 ** bits))

    def test_choose(self):
        for modulus in (2, 4, 8, 16, 32, 64):
            for x in (0, 1, 5, -1, -63, 10 ** 30 + 7):
                for rest in (0, 1, modulus - 1):
                    found = piece(f"( if x mod {modulus} is {rest} then 2 * x else x + 9 )")((x,), 10)
                    self.assertEqual(found, (2 * x if x % modulus == rest else x + 9) % 1024)

    def test_choose_with_few_bits_asked(self):
        chosen = piece("( if half x mod 64 is 63 then 1 else 0 )")
        self.assertEqual([chosen((x,), 1) for x in (0, 125, 126, 127, 128, -1)], [0, 0, 1, 1, 0, 1])

    def test_calls(self):
        text = "function g x y\ngive half x - y\nfunction f x\ngive g ( x * x , g ( x , 3 ) ) * g ( 1 , x )"
        found = Library.read(text).piece("f")
        for x in (0, 1, 5, -8, 10 ** 30):
            self.assertEqual(found((x,)), (x * x // 2 - (x // 2 - 3)) * (0 - x) % 2 ** 64)

    def test_calls_halve_what_they_get(self):
        text = "function g x\ngive half half x\nfunction h x\ngive g ( half x )\nfunction f x\ngive h ( x over 3 )"
        found = Library.read(text).piece("f")
        for x in (3, 5, -1, 10 ** 20):
            self.assertEqual(found((x,)), (x * pow(3, -1, 2 ** 80) % 2 ** 80) // 8 % 2 ** 64)

    def test_points_are_tuples_or_lists(self):
        found = piece("x - y", "x y")
        self.assertEqual(found((5, 7), 3), 6)
        self.assertEqual(found([5, 7], 3), 6)
        self.assertEqual(found(point=[5, 7], bits=3), 6)
        point = [5, 7]
        found(point)
        self.assertEqual(point, [5, 7])

    def test_fewer_bits_behind_more(self):
        for result in ("half ( x * x ) over 3", "( 2 * x + 1 ) to half x", "( if half x mod 32 is 3 then x else half x )"):
            found = piece(result)
            whole = found((10 ** 9 + 7,), 64)
            for bits in (64, 1, 63, 2, 30, 64, *range(1, 65)):
                self.assertEqual(found((10 ** 9 + 7,), bits), whole % 2 ** bits)

    def test_made_functions(self):
        self.assertGreater(sum([self.compare(seed) for seed in range(200)]), 100)

    def compare(self, seed):
        """Compares the pieces of made functions with the plain way; the number of the pieces."""
        source = random.Random(seed)
        functions = []
        for name in "fgh"[:source.choice([1, 2, 3])]:
            function = random_function(source, name, functions)
            if max(plain.losses_of([*functions, function])[name]) <= 4:
                functions.append(function)
        if not functions:
            return 0
        expected = self.first_even(functions)
        if expected is not None:
            with self.assertRaises(NotOdd) as caught:
                Library(functions)
            self.assertEqual((caught.exception.name, caught.exception.point), expected)
            return 0
        library = Library(functions)
        for name in library.names:
            found = library.piece(name)
            self.assertEqual(found.loss, plain.losses_of(functions)[name])
            for _ in range(3):
                point = [source.choice([source.randint(-9, 9), source.randint(-10 ** 30, 10 ** 30)])
                         for _ in range(found.inputs)]
                whole = plain.function_value(functions, name, point)
                for bits in (64, source.randint(1, 63), 1):
                    self.assertEqual(found(point, bits), whole % 2 ** bits, (seed, name, point, bits))
        return len(functions)

    def first_even(self, functions):
        losses = plain.losses_of(functions)
        for function in functions:
            for point in points(losses[function.name], 1):
                try:
                    plain.function_value(functions, function.name, point)
                except plain.Even:
                    return (function.name, point)
        return None


class RepeatTest(unittest.TestCase):

    def test_no_round_and_one(self):
        self.assertEqual(often("s * s + 7", 0)((5,)), 5)
        self.assertEqual(often("s * s + 7", 1)((5,)), 32)
        self.assertEqual(often("t , s + 1", 0, "s , t")((5, 9)), 5)
        self.assertEqual(often("t , s + 1", 1, "s , t")((5, 9)), 9)
        self.assertEqual(often("t , s + 1", 2, "s , t")((5, 9)), 6)

    def test_states_change_at_once(self):
        self.assertEqual(piece("100 * a + b", "x y", "repeat a , b = x , y by b , a + b times 5")((1, 2)), 1321)

    def test_second_state(self):
        self.assertEqual(piece("t", "x", "repeat s , t = x , 0 by s + 1 , t + s times 10")((5,)), sum(range(5, 15)))

    def test_many_rounds_of_one_state(self):
        for times in (10 ** 18, 10 ** 18 - 1, 65, 64, 63, 2 ** 59):
            for x in (0, 1, -7, 10 ** 30, -10 ** 30 + 1):
                for bits in (64, 1, 16, 17, 63):
                    self.assertEqual(often("s + 1", times)((x,), bits), (x + times) % 2 ** bits)
                    self.assertEqual(often("3 * s", times)((x,), bits), x * pow(3, times, 2 ** 64) % 2 ** bits)
                    self.assertEqual(often("0 - s", times)((x,), bits), x * (-1) ** (times % 2) % 2 ** bits)
        # 5 s + 3, n times, is 5**n s + 3 (5**n - 1) / 4.
        grown = pow(5, 10 ** 18, 2 ** 70)
        self.assertEqual(often("5 * s + 3", 10 ** 18)((11,)), (grown * 11 + 3 * ((grown - 1) // 4)) % 2 ** 64)
        self.assertEqual(often("s ** 3", 10 ** 18)((7,)), pow(7, pow(3, 10 ** 18, 2 ** 62), 2 ** 64))
        self.assertEqual(often("7", 10 ** 18)((11,)), 7)

    def test_one_round_more(self):
        step = piece("x * x - 3 * x + 5")
        for times in (10 ** 18 - 1, 65, 64, 100, 2 ** 40):
            for x in (0, 3, -8):
                before = often("s * s - 3 * s + 5", times)((x,))
                self.assertEqual(often("s * s - 3 * s + 5", times + 1)((x,)), step((before,)))

    def test_rounds_one_by_one(self):
        for times in (64, 65, 66, 999, 1000, 3000):
            for x in (0, 1, 10, -77):
                state = x
                for _ in range(times):
                    state = (state * state * state + 6 * state + 1) % 2 ** 64
                self.assertEqual(often("s ** 3 + 6 * s + 1", times)((x,)), state)

    def test_two_states_one_by_one(self):
        for times in (999, 1000):
            one, two = 3, 4
            for _ in range(times):
                one, two = (one * two + 1) % 2 ** 64, (one + two * two) % 2 ** 64
            self.assertEqual(often("s * t + 1 , s + t * t", times, "s , t")((3, 4)), one)

    def test_made_rounds(self):
        for seed in range(30):
            source = random.Random(seed)
            names = ("s", "t")[:source.choice([1, 2])]
            most = {1: 10, 2: 6}[len(names)]
            steps = [random_step(source, names) for _ in names]
            times = source.choice([1001, 1002, 10 ** 18, source.randint(1001, 10 ** 18)])
            row = Repeat(names, [Name(name) for name in ("x", "y")[:len(names)]], steps, times)
            result = Name("s") + Multiply(Number(3), Name(names[-1]))
            found = Library([Function("f", ("x", "y")[:len(names)], (row,), result)]).piece("f")
            for bits in (most, 1, 3, most - 1):
                whole = 2 ** bits

                def step(state):
                    return tuple([plain.node_value(node, dict(zip(names, state)), ()) % whole for node in steps])

                for _ in range(3):
                    point = [source.randint(-10 ** 9, 10 ** 9) for _ in names]
                    states = after(step, tuple([x % whole for x in point]), times)
                    self.assertEqual(found(point, bits), (states[0] + 3 * states[-1]) % whole, (seed, point, bits))

    def test_halves_behind_many_rounds(self):
        found = piece("half half s", "x", "repeat s = x by 3 * s + 1 times 1000000000000000000")
        grown = pow(3, 10 ** 18, 2 ** 70)
        for x in (0, 1, 10):
            self.assertEqual(found((x,)), ((grown * x + (grown - 1) // 2) % 2 ** 68) // 4 % 2 ** 64)
        two = piece("half half ( s - t )", "x y", "repeat s , t = x , y by s + t , t times 1000000000000")
        for x, y in ((0, 0), (3, 5), (-9, 200)):
            self.assertEqual(two((x, y), 6), (x + 10 ** 12 * y - y) // 4 % 64)

    def test_calls_of_functions_with_many_rounds(self):
        text = "function g x y\nrepeat s , t = x , y by t , s + t times 1000001\ngive s\nfunction f x\ngive g ( half x , 1 )"
        found = Library.read(text).piece("f")
        for x in (0, 5, -20):
            one, two = after(lambda state: (state[1], sum(state) % 64), (x // 2 % 64, 1), 1000001)
            for bits in (6, 5, 1, 6):
                self.assertEqual(found((x,), bits), one % 2 ** bits)

    def test_time(self):
        begin = time.perf_counter()
        found = piece("half s", "x", "repeat s = x by s * s + 3 * s + 1 times 999999999999999999")
        for bits in [*range(1, 65), *range(64, 0, -1)]:
            found((bits,), bits)
        self.assertLess(time.perf_counter() - begin, 10)


if __name__ == "__main__":
    unittest.main()
