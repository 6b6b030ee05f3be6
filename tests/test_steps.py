"""Promises 34 to 38: `Step`."""

import itertools
import math
import random
import time
import unittest

from lowsure.errors import InvalidNode, Mismatch, NotOneToOne
from lowsure.library import Library
from lowsure.nodes import Call, Choose, Half, Name, Number, Over, Power, Raised
from lowsure.nodetexts import read_node
from lowsure.steps import Step
from lowsure.tables import Table
from tests import plain
from tests.made import random_node, random_step


def step_of(text, bits, names="s"):
    """The step with these texts of nodes."""
    return Step.of(tuple(names.split(" ")), [read_node(part) for part in text.split(" , ")], bits)


def all_states(states, bits):
    return list(itertools.product(range(2 ** bits), repeat=states))


def table_of(step):
    """All next states, by the values that the step gives."""
    return {state: step(state) for state in all_states(step.states, step.bits)}


def repeated(table, times):
    """The states after so many times, by tables put behind themselves."""
    found = {state: state for state in table}
    while times:
        if times % 2:
            found = {state: table[end] for state, end in found.items()}
        table = {state: table[end] for state, end in table.items()}
        times //= 2
    return found


def period_of(table):
    """The least common multiple of the lengths of all rounds."""
    found = 1
    seen = set()
    for state in table:
        length = 0
        while state not in seen:
            seen.add(state)
            state = table[state]
            length += 1
        found = math.lcm(found, length or 1)
    return found


def made_step(source, kinds=(1, 2)):
    """A step of one state or two, often one-to-one, with the nodes that it was made of."""
    states = source.choice(kinds)
    names = ("s", "t")[:states]
    bits = source.randint(1, 6) if states == 1 else source.randint(1, 3)
    nodes = [random_step(source, names) for _ in names]
    if source.random() < 0.6:
        nodes = [Number(2) * node + Name(name) for node, name in zip(nodes, source.sample(names, states))]
        if source.random() < 0.4:
            nodes[0] = nodes[0] + Name(names[-1])
    return Step.of(names, nodes, bits), names, nodes


class MakingTest(unittest.TestCase):

    def test_attributes(self):
        one = Table((0,), 3, (1, 2, 3, 4))
        two = [Table((0, 0), 2, [x + y for x, y in plain.vectors(2, 2)]), Table.constant(1, 2, 2)]
        step = Step((one,))
        self.assertEqual((step.tables, step.bits, step.states), ((one,), 3, 1))
        self.assertEqual(step((6,)), (7,))
        both = Step(tables=two)
        self.assertEqual((both.tables, both.bits, both.states), (tuple(two), 2, 2))
        two.clear()
        self.assertEqual(both((3, 2)), (1, 1))
        self.assertEqual(both.tables[1](( 0, 0)), 1)

    def test_tables_that_do_not_fit(self):
        one, lossy = Table.constant(1, 1, 3), Table.of(Library.read("function f x\ngive half x").piece("f"), 3)
        pair = Table.constant(1, 2, 3)
        wide = Table((0, 1), 3, [0] * (2 * len(plain.vectors(2, 3))))
        for tables in ((), (pair,), (one, one), (one, pair), (pair, one), (pair, pair, pair), (lossy,), (pair, wide),
                       (wide, pair), (pair, Table.constant(1, 2, 2)), [lossy, lossy]):
            with self.assertRaises(Mismatch):
                Step(tables)

    def test_tables_of_pieces(self):
        library = Library.read("function f x y\ngive x * x + 3 * y\nfunction g x y\ngive x + 1")
        step = Step([Table.of(library.piece(name), 5) for name in ("f", "g")])
        self.assertEqual(step((10 ** 20, -7)), ((10 ** 40 - 21) % 32, (10 ** 20 + 1) % 32))
        self.assertEqual(step, step_of("s * s + 3 * t , s + 1", 5, "s t"))

    def test_of(self):
        step = Step.of(names=["s"], nodes=[read_node("5 * s + 3")], bits=3)
        self.assertEqual((step.bits, step.states), (3, 1))
        self.assertEqual([step((s,)) for s in (0, 1, -1, 10 ** 30, 8)], [(3,), (0,), (6,), (3,), (3,)])
        self.assertEqual(step(state=[2]), (5,))
        self.assertEqual(step_of("9 , s * t ** 3", 8, "t s")((5, 7)), (9, 7 * 125 % 256))

    def test_of_any_steps(self):
        for seed in range(150):
            source = random.Random(seed)
            step, names, nodes = made_step(source)
            for _ in range(5):
                state = [source.choice([source.randint(-9, 9), source.randint(-10 ** 30, 10 ** 30)]) for _ in names]
                expected = [plain.node_value(node, dict(zip(names, state)), ()) % 2 ** step.bits for node in nodes]
                self.assertEqual(step(state), tuple(expected))

    def test_of_64_bits(self):
        step = step_of("3 * s ** 5 - s + 18446744073709551615", 64)
        for s in (0, 1, -1, 7 * 10 ** 29, 2 ** 63):
            self.assertEqual(step((s,)), ((3 * s ** 5 - s - 1) % 2 ** 64,))
        pair = step_of("3 * s ** 5 * t - s , t ** 64", 8, "s t")
        self.assertEqual(pair((-77, 10 ** 9 + 1)), ((3 * (-77) ** 5 * (10 ** 9 + 1) + 77) % 256, (10 ** 9 + 1) ** 64 % 256))

    def test_of_what_does_not_fit(self):
        s, t = Name("s"), Name("t")
        for names, nodes in (((), ()), (("s",), ()), (("s",), (s, s)), (("s", "t"), (s,)), (("s", "s"), (s, s)),
                             (("s", "t", "u"), (s, s, s)), (("let",), (Number(1),)), (("",), (Number(1),)),
                             (("S",), (Number(1),)), ((1,), (Number(1),)), (("s", None), (s, s)), (([],), (s,)),
                             (("aaaaaaaaa",), (Number(1),)), (("s",), (t,)), (("s", "t"), (s, Name("u"))),
                             (["s"], [Half(s)]), (["s"], [Over(s, Number(1))]), (["s"], [Raised(Number(3), s)]),
                             (["s"], [Choose(s, 2, 0, s, s)]), (["s"], [Call("f", [s])]), (["s"], [s + Half(s)]),
                             (["s"], [Power(s * Half(Number(4)), 2)])):
            with self.assertRaises(InvalidNode):
                Step.of(names, nodes, 3)

    def test_of_made_nodes(self):
        seen = 0
        for seed in range(100):
            source = random.Random(seed)
            node = random_node(source, ("s", "t", "u"), (), 3)
            fits = not any([isinstance(part, (Half, Over, Raised, Choose, Call)) for part in node.parts()])
            if fits and set(node.named()) <= {"s", "t"}:
                Step.of(("s", "t"), (node, node), 2)
                seen += 1
                continue
            with self.assertRaises(InvalidNode):
                Step.of(("s", "t"), (Name("s"), node), 2)
        self.assertGreater(seen, 5)


class OftenTest(unittest.TestCase):

    def test_products(self):
        one, other = step_of("s + 1", 8), step_of("3 * s", 8)
        self.assertEqual([(one * other)((5,)), (other * one)((5,))], [(16,), (18,)])
        pair, swap = step_of("s * t , s + 7", 5, "s t"), step_of("t , s", 5, "s t")
        self.assertEqual([(pair * swap)((2, 3)), (swap * pair)((2, 3))], [(6, 10), (9, 6)])
        for first, second in ((one, pair), (pair, one), (one, step_of("s + 1", 7)), (pair, step_of("t , s", 4, "s t")),
                              (step_of("s", 2), step_of("s", 3)), (step_of("s", 3), step_of("s", 2))):
            with self.assertRaises(Mismatch):
                first * second

    def test_equality(self):
        self.assertEqual(step_of("s + s", 4), step_of("2 * s", 4))
        self.assertEqual(step_of("s + 16", 4), step_of("s", 4))
        self.assertEqual(step_of("s + 8 * s * ( s + 1 )", 4), step_of("s", 4))
        self.assertEqual(step_of("s , t + 4 * t * t - 4 * t", 3, "s t"), step_of("s , t", 3, "s t"))
        self.assertNotEqual(step_of("s + 16", 5), step_of("s", 5))
        self.assertNotEqual(step_of("s", 4), step_of("s", 5))
        self.assertNotEqual(step_of("0", 4), step_of("0", 5))
        self.assertNotEqual(step_of("s", 4), step_of("s , t", 4, "s t"))
        self.assertNotEqual(step_of("s , t", 4, "s t"), step_of("t , s", 4, "s t"))
        self.assertFalse(step_of("s", 4) == step_of("s", 4).tables)
        self.assertFalse(step_of("s", 4) == "s")
        self.assertTrue(step_of("s", 4) != None)

    def test_few_times(self):
        step = step_of("s * s + 1", 6)
        self.assertEqual(step.often(0), step_of("s", 6))
        self.assertEqual(step.often(0)((100,)), (36,))
        self.assertEqual(step.often(1), step)
        self.assertEqual(step.often(n=2), step * step)
        self.assertEqual(step.often(3), step * step * step)
        pair = step_of("t * t , s + 3", 4, "s t")
        self.assertEqual([pair.often(0), pair.often(1)], [step_of("s , t", 4, "s t"), pair])
        self.assertEqual(pair.often(5), pair * pair * pair * pair * pair)

    def test_made_steps(self):
        undone = 0
        for seed in range(150):
            source = random.Random(seed)
            step = made_step(source)[0]
            table = table_of(step)
            for n in (source.randint(0, 40), source.randint(0, 2 ** 70), 2 ** 70):
                self.assertEqual(table_of(step.often(n)), repeated(table, n), (seed, n))
            if len(set(table.values())) < len(table):
                continue
            undone += 1
            period = period_of(table)
            for n in (1, source.randint(0, 40), source.randint(0, 2 ** 70), 2 ** 70):
                self.assertEqual(table_of(step.often(-n)), repeated(table, -n % period), (seed, n))
            self.assertEqual(table_of(~step), {end: state for state, end in table.items()})
            self.assertEqual(~step * step, step.often(0))
        self.assertGreater(undone, 40)

    def test_64_bits(self):
        step = step_of("5 * s + 3", 64)
        grown = pow(5, 2 ** 70, 2 ** 70)
        self.assertEqual(step.often(2 ** 70)((11,)), ((grown * 11 + 3 * ((grown - 1) // 4)) % 2 ** 64,))
        back = step.often(-(2 ** 70) + 1)
        self.assertEqual(back * step.often(2 ** 70 - 1), step.often(0))
        self.assertEqual((~step)((3,)), (0,))
        curved = step_of("4 * s ** 3 - s + 9", 64)
        self.assertEqual((~curved)(curved((10 ** 25,))), (10 ** 25 % 2 ** 64,))
        self.assertEqual(step_of("s * s", 64).often(2 ** 70)((7,)), (1,))
        self.assertEqual(step_of("s * s", 64).often(2)((7,)), (7 ** 4,))

    def test_8_bits_of_two_states(self):
        step = step_of("t + 2 * s * s , s + t + 1", 8, "s t")
        self.assertEqual(~step * step, step.often(0))
        self.assertEqual(step.often(-2 ** 70) * step.often(2 ** 70), step.often(0))
        self.assertEqual(step.often(10 ** 20) * step.often(1 - 10 ** 20), step)
        loose = step_of("s * t + 3 , t ** 3 + s", 8, "s t")
        self.assertEqual(loose.often(2 ** 69) * loose.often(2 ** 69), loose.often(2 ** 70))
        self.assertEqual(loose.often(100) * loose.often(41), loose.often(141))

    def test_negative_times_of_steps_that_are_not_one_to_one(self):
        for step, found in ((step_of("s * s", 5), (1, 2)), (step_of("s + 2 * t * t , s + t * t", 4, "s t"), None)):
            for call in (lambda: step.often(-1), lambda: step.often(-2 ** 70), lambda: ~step):
                with self.assertRaises(NotOneToOne) as caught:
                    call()
                error = caught.exception
                self.assertEqual((error.bits, error.state, error.other), step.collision())

    def test_nothing_changes(self):
        step = step_of("5 * s + 3", 10)
        first = (step((4,)), step.period(), step.late(), step.often(7), ~step)
        step.often(100)
        list(step.rounds((4,), 20))
        self.assertEqual((step((4,)), step.period(), step.late(), step.often(7), ~step), first)


class RoundsTest(unittest.TestCase):

    def test_rounds(self):
        step = step_of("5 * s + 3", 3)
        self.assertEqual(list(step.rounds((0,), 5)), [(0,), (3,), (2,), (5,), (4,)])
        self.assertEqual(list(step.rounds(state=[-8], count=3)), [(0,), (3,), (2,)])
        self.assertEqual(list(step.rounds((5,), 0)), [])
        self.assertEqual(list(step.rounds((13,), 1)), [(5,)])
        pair = step_of("t , s + t", 8, "s t")
        self.assertEqual(list(pair.rounds((0, 257), 6)), [(0, 1), (1, 1), (1, 2), (2, 3), (3, 5), (5, 8)])

    def test_a_thousand(self):
        step, state = step_of("3 * s ** 2 + s + 1", 64), 10 ** 30
        found = list(step.rounds((state,), 1000))
        self.assertEqual(len(found), 1000)
        for each in found:
            self.assertEqual(each, (state % 2 ** 64,))
            state = 3 * state ** 2 + state + 1
            state %= 2 ** 64

    def test_left_and_begun_again(self):
        step = step_of("5 * s + 3", 3)
        left = iter(step.rounds((0,), 1000))
        self.assertEqual([next(left), next(left)], [(0,), (3,)])
        self.assertEqual(list(step.rounds((0,), 3)), [(0,), (3,), (2,)])
        self.assertEqual(next(left), (2,))


class OneToOneTest(unittest.TestCase):

    def check(self, step):
        """Compares with all states; returns the collision."""
        table, found = table_of(step), step.collision()
        self.assertEqual(found is None, len(set(table.values())) == len(table))
        if found is None:
            return None
        bits, state, other = found
        least = [m for m in range(1, step.bits + 1) if len({tuple([x % 2 ** m for x in step(low)])
                 for low in all_states(step.states, m)}) < 2 ** (m * step.states)]
        self.assertEqual(bits, least[0])
        self.assertEqual((type(found), type(state), type(other)), (tuple, tuple, tuple))
        self.assertNotEqual(state, other)
        self.assertTrue(all([0 <= x < 2 ** bits for x in state + other]))
        self.assertEqual([x % 2 ** bits for x in step(state)], [x % 2 ** bits for x in step(other)])
        for call in (step.period, step.late, lambda: ~step, lambda: step.often(-5)):
            with self.assertRaises(NotOneToOne) as caught:
                call()
            self.assertEqual((caught.exception.bits, caught.exception.state, caught.exception.other), found)
        return found

    def test_one_bit_or_two(self):
        for text, names, bits, at in (("s * s", "s", 1, None), ("s * s", "s", 2, 2), ("s * s", "s", 5, 2),
                                      ("2 * s", "s", 5, 1), ("s * s + s", "s", 1, 1), ("7", "s", 1, 1),
                                      ("s + 2 * s * s", "s", 6, None), ("s ** 3", "s", 3, 2), ("0 - s", "s", 5, None),
                                      ("t , s", "s t", 3, None), ("s , s", "s t", 3, 1), ("s * s , t", "s t", 3, 2),
                                      ("s * s , t", "s t", 1, None), ("s + t , t", "s t", 3, None),
                                      ("s + t , s - t", "s t", 3, 1), ("s , t ** 3", "s t", 4, 2)):
            found = self.check(step_of(text, bits, names))
            self.assertEqual(found and found[0], at, text)

    def test_made_steps(self):
        found = [self.check(made_step(random.Random(seed))[0]) for seed in range(400)]
        bits = [each[0] for each in found if each is not None]
        self.assertGreater(min(bits.count(1), bits.count(2), found.count(None)), 10)


class PeriodTest(unittest.TestCase):

    def check(self, step):
        """Compares with all rounds of all states; returns the period."""
        table, period, late = table_of(step), step.period(), step.late()
        self.assertEqual(period, period_of(table))
        self.assertEqual((9 * 2 ** (step.bits + 2)) % period, 0)
        self.assertEqual(step.often(period), step.often(0))
        self.assertIsInstance(late, tuple)
        self.assertEqual([prime for prime, _ in late], [prime for prime in (2, 3) if period % prime == 0])
        for prime, state in late:
            self.assertIsInstance(state, tuple)
            self.assertTrue(all([0 <= x < 2 ** step.bits for x in state]))
            self.assertNotEqual(step.often(period // prime)(state), state)
        return period

    def test_by_hand(self):
        for text, names, bits, period in (("5 * s + 3", "s", 3, 8), ("s", "s", 6, 1), ("0 - s", "s", 6, 2),
                                          ("s + 1", "s", 7, 128), ("s + 4", "s", 7, 32), ("s", "s", 1, 1),
                                          ("s + 1", "s", 1, 2), ("s , t", "s t", 3, 1), ("t , s", "s t", 3, 2),
                                          ("t , s + t", "s t", 1, 3), ("t , s + t", "s t", 4, 24),
                                          ("t , 0 - s - t", "s t", 4, 3), ("t , 1 - s - t", "s t", 3, 3)):
            self.assertEqual(self.check(step_of(text, bits, names)), period, text)

    def test_made_steps(self):
        found = []
        for seed in range(400):
            step = made_step(random.Random(seed), (1, 2, 2))[0]
            if step.collision() is None:
                found.append(self.check(step))
        self.assertGreater(len(found), 100)

    def test_three_and_nine(self):
        # These terms are even at all states, but not their slopes: a round of three states has rounds of three in it.
        source, found = random.Random(4), []
        for _ in range(200):
            more = [" + ".join(source.sample(("s * ( s + 1 )", "t * ( t + 1 )", "s * ( s + 1 ) * t", "2 * s * t",
                                              "t * ( t + 1 ) * s", "2 * s", "2"), source.randint(1, 2))) for _ in "st"]
            step = step_of(f"t + {more[0]} , s + t + {more[1]}", source.choice([2, 3]), "s t")
            if step.collision() is None:
                found.append(self.check(step))
        self.assertGreater(len([period for period in found if period % 9 == 0]), 5)
        self.assertGreater(len([period for period in found if period % 9 in (3, 6)]), 5)
        self.assertEqual(step_of("t , s + t + t * ( t + 1 ) * s", 2, "s t").period(), 9)
        self.assertEqual(step_of("t , s + t + t * ( t + 1 ) * s", 4, "s t").period(), 18)
        self.assertEqual(step_of("t , s + t + 2 + t * ( t + 1 ) * s", 4, "s t").period(), 36)

    def test_great_periods(self):
        begin = time.perf_counter()
        step = step_of("5 * s + 3", 64)
        self.assertEqual(step.period(), 2 ** 64)
        ((prime, state),) = step.late()
        self.assertEqual(prime, 2)
        self.assertNotEqual(step.often(2 ** 63)(state), state)
        self.assertEqual(step_of("s + 2 ** 40", 64).period(), 2 ** 24)
        self.assertEqual(step_of("s", 64).late(), ())
        pair = step_of("t , s + t", 8, "s t")
        self.assertEqual(pair.period(), 3 * 2 ** 7)
        for prime, state in pair.late():
            self.assertNotEqual(pair.often(384 // prime)(state), state)
        self.assertLess(time.perf_counter() - begin, 5)


if __name__ == "__main__":
    unittest.main()
