"""The examples of the document, and those of README.md."""

import doctest
import unittest
from pathlib import Path

from lowsure.agreement import agree
from lowsure.deciding import decides
from lowsure.errors import InvalidText, NoTable
from lowsure.house import House
from lowsure.library import Library
from lowsure.machine import Code, Machine
from lowsure.needed import needed, sure
from lowsure.nodetexts import read_node, show_node
from lowsure.rightness import fixed_bits
from lowsure.rows import Function
from lowsure.runs import run
from lowsure.steps import Step
from lowsure.tables import Table, count_tables

README = Path(__file__).resolve().parent.parent / "README.md"


class ExamplesTest(unittest.TestCase):

    def test_nodes(self):
        self.assertEqual(show_node(read_node("( a * ( b + c ) ) + half ( half d )")), "a * ( b + c ) + half half d")
        with self.assertRaises(InvalidText) as caught:
            read_node("a + ")
        self.assertEqual(caught.exception.at, 2)

    def test_pieces(self):
        library = Library.read("function sq x\ngive half ( x * x + x )\nfunction tri x\nlet a = half x\n"
                               "give ( if x mod 2 is 0 then a * ( x + 1 ) else x * ( a + 1 ) )")
        sq, tri = library.piece("sq"), library.piece("tri")
        self.assertEqual(sq((5,), 8), 15)
        self.assertEqual((sq.loss, tri.loss), ((1,), (1,)))
        self.assertEqual(agree(sq, tri), (64, None))
        self.assertEqual((needed(sq, 4), sure(sq, (5,), 10)), ((5,), 4))
        cube = Library.read("function f x\ngive x ** 3 - x\nfunction zero x\ngive 0")
        self.assertEqual(agree(cube.piece("f"), cube.piece("zero"), 8)[0], 1)

    def test_tables(self):
        self.assertEqual(Table((0,), 3, (0, 3, 2, 5))((5,)), 7)
        with self.assertRaises(NoTable) as caught:
            Table((0,), 3, (0, 3, 3, 5))
        self.assertEqual(caught.exception.at, 2)
        self.assertEqual(count_tables((0,), 3), 10)
        self.assertEqual((decides([(0,), (1,), (2,), (3,)], (0,), 3), decides([(0,), (4,), (1,), (2,)], (0,), 3)),
                         (True, False))

    def test_steps(self):
        step = Step.of(("s",), (read_node("5 * s + 3"),), 3)
        self.assertEqual((list(step.rounds((0,), 5)), step.period(), (~step)((3,))),
                         ([(0,), (3,), (2,), (5,), (4,)], 8, (0,)))

    def test_code(self):
        code = Code.read("right 1 0\nmul 0 1 1")
        self.assertEqual((run(Machine(6, 3), code, (2,)), run(Machine(6, 3), code, (2,), (1,)),
                          fixed_bits(Machine(6, 3), code, 1)), (1, 1, 6))

    def test_house(self):
        house = House(Machine(16, 4))
        self.assertEqual((house.edit(Function("f", ("x",), (), read_node("half x")), 4), house.call("f", (9,))), ((), 4))
        self.assertEqual((house.edit(Function("f", ("x",), (), read_node("half x + 16"))),
                          len(house.edit(Function("f", ("x",), (), read_node("half x + 4"))))), ((), 1))

    def test_readme(self):
        self.assertEqual(doctest.testfile(str(README), module_relative=False).failed, 0)


if __name__ == "__main__":
    unittest.main()
