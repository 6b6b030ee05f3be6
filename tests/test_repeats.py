"""Promises 5, 14 and 16 for `Repeat`s of many rounds: their values, and the time that these take."""

import itertools
import random
import time
import unittest

from lowsure.library import Library
from lowsure.nodes import Name
from lowsure.rows import Function, Repeat
from tests import plain
from tests.made import random_step

MANY = 999999999999999999


def often(steps, times, names="s", result="", inputs="x y"):
    """The piece that repeats some steps of the inputs."""
    starts = " , ".join(inputs.split(" ")[:len(names.split(" , "))])
    row = f"repeat {names} = {starts} by {steps} times {times}"
    return Library.read(f"function f {inputs}\n{row}\ngive {result or names.split(' ')[0]}").piece("f")


def one_by_one(step, states, times, bits):
    for _ in range(times):
        states = tuple([value % 2 ** bits for value in step(*states)])
    return states


def all_ends(step, states, times, bits):
    """A dict of the ends of all states below 2 ** bits, by tables that are put behind themselves."""
    found = {place: place for place in itertools.product(range(2 ** bits), repeat=states)}
    again = {place: tuple([value % 2 ** bits for value in step(*place)]) for place in found}
    while times:
        if times % 2:
            found = {place: again[end] for place, end in found.items()}
        again = {place: again[end] for place, end in again.items()}
        times //= 2
    return found


class FewBitsTest(unittest.TestCase):

    def compare(self, found, step, states, times, most, source):
        """Asks for all numbers of bits in any order, at all states in any order, and some of them again."""
        ends = {bits: all_ends(step, states, times, bits) for bits in range(1, most + 1)}
        asked = [(bits, place) for bits in ends for place in ends[bits]]
        source.shuffle(asked)
        for bits, place in [*asked[:300], *asked[:30], *asked[:30], *asked[:30]]:
            point = [x + 2 ** bits * source.randint(-3, 3) for x in place]
            self.assertEqual(found([*point, 0][:2], bits), ends[bits][place][0], (times, bits, point))

    def test_one_state(self):
        steps = (("3 * s ** 2 + s", lambda s: [3 * s * s + s]), ("s * s + s + 1", lambda s: [s * s + s + 1]),
                 ("5 * s + 3", lambda s: [5 * s + 3]), ("s ** 3 - 2 * s + 7", lambda s: [s ** 3 - 2 * s + 7]),
                 ("2 * s * s - s", lambda s: [2 * s * s - s]), ("s * s", lambda s: [s * s]))
        for text, step in steps:
            for times in (65, 66, 127, 1000, 10 ** 18, MANY):
                self.compare(often(text, times), step, 1, times, 6, random.Random(times))

    def test_two_states(self):
        steps = (("s * t + 3 , t ** 3 + s", lambda s, t: (s * t + 3, t ** 3 + s)),
                 ("t , s + t", lambda s, t: (t, s + t)), ("s + t * t , t + s * s", lambda s, t: (s + t * t, t + s * s)),
                 ("s * s + t , 2 * s", lambda s, t: (s * s + t, 2 * s)), ("t + 1 , 3 * s", lambda s, t: (t + 1, 3 * s)),
                 ("s * t , s + 1", lambda s, t: (s * t, s + 1)), ("t * t + 1 , t", lambda s, t: (t * t + 1, t)))
        for text, step in steps:
            for times in (65, 1000, 1001, 10 ** 18, MANY):
                self.compare(often(text, times, "s , t"), step, 2, times, 3, random.Random(times))

    def test_slopes_that_differ(self):
        # Near (0, 0) alone, these turn the states, which stand still modulo 4 with others beside them.
        near, beside = "s * ( s + 1 ) ** 2 * ( t + 1 )", "t * ( t + 1 ) ** 2 * ( s + 1 )"
        swap = f"s + {near} + {beside} , t + {near} + {beside}"
        turn = f"s + {near} + {beside} , t + {near}"

        def slopes(s, t):
            return s * (s + 1) ** 2 * (t + 1), t * (t + 1) ** 2 * (s + 1)

        for text, step in ((swap, lambda s, t: (s + sum(slopes(s, t)), t + sum(slopes(s, t)))),
                           (turn, lambda s, t: (s + sum(slopes(s, t)), t + slopes(s, t)[0]))):
            for times in (1000, 1001, 1002, 10 ** 18 + 1 - 2, MANY, MANY - 1):
                found = often(text, times, "s , t")
                for bits in (2, 3, 4):
                    for place, end in all_ends(step, 2, times, bits).items():
                        if place[0] % 2 == place[1] % 2 == 0:
                            self.assertEqual(found(place, bits), end[0], (times, bits, place))

    def test_made_steps(self):
        for seed in range(60):
            source = random.Random(seed)
            names = ("s", "t")[:source.choice([1, 2])]
            nodes = [random_step(source, names) for _ in names]
            times = source.choice([source.randint(60, 130), source.randint(1001, 10 ** 18)])
            row = Repeat(names, [Name(name) for name in ("x", "y")[:len(names)]], nodes, times)
            found = Library([Function("f", ("x", "y"), (row,), Name("s"))]).piece("f")

            def step(*states):
                return [plain.node_value(node, dict(zip(names, states)), ()) for node in nodes]

            self.compare(found, step, len(names), times, {1: 6, 2: 3}[len(names)], source)


class ManyBitsTest(unittest.TestCase):

    def test_sums_and_products(self):
        for a, b in ((3, 3), (1, 5), (5, 0), (2, 7), (-1, 4), (4 * 10 ** 9 + 3, 1), (6, -2), (0, 9)):
            for times in (65, 700, 10 ** 18, MANY):
                found = often(f"{a} * s + {b}" if b >= 0 else f"{a} * s - {-b}", times)
                grown, added = 1, 0
                # a * s + b, done so many times, is grown * s + added.
                for digit in f"{times:b}":
                    grown, added = grown * grown, grown * added + added
                    if digit == "1":
                        grown, added = a * grown, a * added + b
                    grown, added = grown % 2 ** 64, added % 2 ** 64
                for bits in (24, 64, 1, 33, 7, 63):
                    for x in (5, 0, -1, 10 ** 30):
                        self.assertEqual(found((x, 0), bits), (grown * x + added) % 2 ** bits)

    def test_some_dozen_rounds(self):
        for times in range(60, 125):
            for text, step in (("3 * s ** 2 + s", lambda s: [3 * s * s + s]), ("s ** 5 + 2", lambda s: [s ** 5 + 2])):
                found = often(text, times)
                for x in (1, -5, 10 ** 20 + times):
                    end = one_by_one(step, (x,), times, 64)[0]
                    self.assertEqual([found((x, 0), bits) for bits in (64, 5, 63, 64)],
                                     [end % 2 ** bits for bits in (64, 5, 63, 64)])

    def test_some_hundred_rounds(self):
        for times in (255, 379, 380, 381, 400, 900, 2001):
            for text, step in (("3 * s ** 2 + s", lambda s: [3 * s * s + s]), ("s * s - 3", lambda s: [s * s - 3])):
                found = often(text, times)
                for x in (1, -5, 10 ** 20):
                    end = one_by_one(step, (x,), times, 64)[0]
                    for bits in (64, 20, 47):
                        self.assertEqual(found((x, 0), bits), end % 2 ** bits)

    def test_many_starts(self):
        for times in (500, 3001):
            found = often("7 * s ** 3 + 4 * s + 1", times)
            for x in range(-100, 100):
                end = one_by_one(lambda s: [7 * s ** 3 + 4 * s + 1], (x,), times, 64)[0]
                self.assertEqual(found((x, 0)), end)
                self.assertEqual(found((x, 0), 61), end % 2 ** 61)

    def test_two_states(self):
        source = random.Random(7)
        for text, step in (("s * t + 3 , t ** 3 + s", lambda s, t: (s * t + 3, t ** 3 + s)),
                           ("s + t , t + 1", lambda s, t: (s + t, t + 1)), ("t , 2 * s", lambda s, t: (t, 2 * s)),
                           ("s * s + t , s - t", lambda s, t: (s * s + t, s - t))):
            for times in (1001, 1002, 1500, 2311):
                found = often(text, times, "s , t", "s + 5 * t")
                for _ in range(60 if times == 1001 else 4):
                    point = (source.randint(-99, 99), source.randint(-10 ** 20, 10 ** 20))
                    one, two = one_by_one(step, point, times, 6)
                    for bits in (6, 4, 6, 5):
                        self.assertEqual(found(point, bits), (one + 5 * two) % 2 ** bits)

    def test_two_states_and_a_thousand_rounds(self):
        for times in (300, 900, 1000):
            found = often("s * t + 3 , t ** 3 + s", times, "s , t")
            for bits in (64, 12, 30, 9):
                self.assertEqual(found((3, -8), bits),
                                 one_by_one(lambda s, t: (s * t + 3, t ** 3 + s), (3, -8), times, bits)[0])

    def test_states_that_lose_bits(self):
        # Half of half of half a state needs three bits more of it, also from starts that no input reaches.
        row = "repeat s , t = 3 , x by s * t + 2 , t * t + s times 5003"
        found = Library.read(f"function f x\n{row}\ngive half half half ( s - 2 * t )").piece("f")
        for x in (0, 1, -6, 77):
            one, two = one_by_one(lambda s, t: (s * t + 2, t * t + s), (3, x), 5003, 20)
            for bits in (6, 2, 5):
                self.assertEqual(found((x,), bits), (one - 2 * two) // 8 % 2 ** bits)


class RowsTest(unittest.TestCase):

    def test_one_behind_the_other(self):
        text = "\n".join(("function f x y", "let a = x * y + 3", f"repeat s = a by 3 * s ** 2 + s times {MANY}",
                          "let b = half s", f"repeat p , q = b , s by q , p + q times {10 ** 12}",
                          "repeat z , w = p , q by z * z , w + 1 times 0", "give 3 * z + w + a"))
        found = Library.read(text).piece("f")
        for bits in (5, 2, 4, 5, 1, 5):
            ends = all_ends(lambda s: [3 * s * s + s], 1, MANY, bits + 1)
            pairs = all_ends(lambda p, q: (q, p + q), 2, 10 ** 12, bits)
            for point in ((0, 0), (5, 7), (-3, 10 ** 9), (2, 2)):
                a = point[0] * point[1] + 3
                s = ends[(a % 2 ** (bits + 1),)][0]
                p, q = pairs[(s // 2 % 2 ** bits, s % 2 ** bits)]
                self.assertEqual(found(point, bits), (3 * p + q + a) % 2 ** bits)

    def test_no_round(self):
        for names, steps in (("s", "s * s"), ("s , t", "t , s * t")):
            found = often(steps, 0, names)
            self.assertEqual([found((x, 9), bits) for x, bits in ((5, 64), (-1, 3), (10 ** 20, 10), (5, 64))],
                             [5, 7, 10 ** 20 % 1024, 5])


class TimeTest(unittest.TestCase):

    def test_first_questions(self):
        asked = (("s * t + 3 , t ** 3 + s", MANY, "s , t", 6), ("3 * s ** 2 + s", MANY, "s", 64),
                 ("3 * s ** 2 + s", MANY, "s", 3), ("3 * s ** 2 + s", 900, "s", 64), ("3 * s + 3", MANY, "s", 24))
        begin = time.perf_counter()
        for number in range(400):
            steps, times, names, bits = asked[number % 5]
            often(steps, times - number // 5, names)((number, 2), bits)
        self.assertLess(time.perf_counter() - begin, 3)

    def test_further_questions(self):
        found = often("3 * s ** 2 + s", MANY)
        begin = time.perf_counter()
        for number in range(2000):
            found((number, 0), 64 - number % 64)
        self.assertLess(time.perf_counter() - begin, 3)


if __name__ == "__main__":
    unittest.main()
