"""Promise 14: `Let`, `Repeat` and `Function`."""

import unittest

from lowsure.nodes import Add, Name, Number
from lowsure.rows import Function, Let, Repeat

X = Name("x")
ONE = Number(1)


def a_let():
    return Let("a", Add(Name("x"), Number(1)))


def a_repeat():
    return Repeat(["s", "t"], [Name("x"), Number(1)], [Name("t"), Name("s")], 7)


def a_function():
    return Function("f", ["x", "y"], [a_let(), a_repeat()], Name("a"))


class RowsTest(unittest.TestCase):

    def test_attributes(self):
        self.assertEqual((a_let().name, a_let().node), ("a", Add(X, ONE)))
        row = a_repeat()
        self.assertEqual((row.names, row.starts, row.steps, row.times),
                         (("s", "t"), (X, ONE), (Name("t"), Name("s")), 7))
        function = a_function()
        self.assertEqual((function.name, function.inputs, function.rows, function.result),
                         ("f", ("x", "y"), (a_let(), a_repeat()), Name("a")))

    def test_parameter_names(self):
        self.assertEqual(Let(node=X, name="a"), Let("a", X))
        self.assertEqual(Repeat(times=3, steps=(X,), starts=(ONE,), names=("s",)), Repeat(("s",), (ONE,), (X,), 3))
        self.assertEqual(Function(result=X, rows=(), inputs=("x",), name="f"), Function("f", ("x",), (), X))

    def test_lists_become_tuples_and_may_be_emptied(self):
        names, starts, steps = ["s"], [ONE], [Name("s")]
        row = Repeat(names, starts, steps, 2)
        inputs, rows = ["x"], [row]
        function = Function("f", inputs, rows, X)
        for given in (names, starts, steps, inputs, rows):
            given.clear()
        for kept in (row.names, row.starts, row.steps, function.inputs, function.rows):
            self.assertIsInstance(kept, tuple)
            self.assertEqual(len(kept), 1)
        self.assertEqual(function, Function("f", ("x",), (Repeat(("s",), (ONE,), (Name("s"),), 2),), X))

    def test_equal_if_made_anew(self):
        for make in (a_let, a_repeat, a_function):
            self.assertTrue(make() == make())
            self.assertFalse(make() != make())

    def test_each_attribute_counts(self):
        for other in (Let("b", Add(X, ONE)), Let("a", Add(ONE, X))):
            self.assertFalse(a_let() == other)
        for other in (Repeat(("s", "u"), (X, ONE), (Name("t"), Name("s")), 7),
                      Repeat(("s", "t"), (X, X), (Name("t"), Name("s")), 7),
                      Repeat(("s", "t"), (X, ONE), (Name("s"), Name("s")), 7),
                      Repeat(("s", "t"), (X, ONE), (Name("t"), Name("s")), 8)):
            self.assertFalse(a_repeat() == other)
        rows = (a_let(), a_repeat())
        for other in (Function("g", ("x", "y"), rows, Name("a")), Function("f", ("y", "x"), rows, Name("a")),
                      Function("f", ("x", "y"), rows[:1], Name("a")), Function("f", ("x", "y"), rows, Name("b"))):
            self.assertFalse(a_function() == other)

    def test_equal_to_nothing_of_other_classes(self):
        made = [a_let(), a_repeat(), a_function(), X, Let("s", X), Repeat(("s",), (X,), (X,), 0)]
        for at, one in enumerate(made):
            for other in [*made[:at], *made[at + 1:], None, 3, "a", (), ("a", X)]:
                self.assertFalse(one == other)
                self.assertTrue(one != other)

    def test_nothing_is_checked_here(self):
        # Whether rows make a library is for the library to say.
        self.assertEqual(Let("half", X).name, "half")
        self.assertEqual(Repeat((), (), (), -1).times, -1)
        self.assertEqual(Function("", (), (), X).inputs, ())


if __name__ == "__main__":
    unittest.main()
