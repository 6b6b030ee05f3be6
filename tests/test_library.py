"""Promises 15 to 17 and 19: libraries, their errors in order, and what pieces are."""

import unittest

from lowsure.errors import InvalidLibrary, LowError, NotOdd, UnknownName
from lowsure.library import Library, Piece
from lowsure.nodes import Add, Call, Choose, Half, Name, Number, Over, Power, Raised
from lowsure.nodetexts import read_node
from lowsure.rows import Function, Let, Repeat

X, Y, S, T = Name("x"), Name("y"), Name("s"), Name("t")
ONE = Number(1)


def f(name="f", inputs=("x",), rows=(), result=X):
    return Function(name, inputs, rows, result)


def repeat(names=("s",), starts=(X,), steps=(S,), times=2):
    return Repeat(names, starts, steps, times)


def fault(*functions):
    """What Library raises for some functions."""
    try:
        Library(functions)
    except InvalidLibrary as error:
        return (error.word, error.function, error.row)
    return None


def row_fault(*rows, result=X):
    """What Library raises for the rows of a function behind another one."""
    found = fault(f("g", ("x", "y")), f("f", ("x",), rows, result))
    return None if found is None else (found[0], found[2]) if found[1] == 1 else found


def not_odd(text):
    """What Library raises for a text of functions, separated by semicolons."""
    try:
        Library.read(text.replace(" ; ", "\n"))
    except NotOdd as error:
        return (error.name, error.point)
    return None


class CountTest(unittest.TestCase):

    def test_count(self):
        self.assertEqual(fault(), ("count", -1, -1))
        self.assertEqual(fault(*[f(name) for name in "abcdefghi"]), ("count", -1, -1))
        self.assertIsNone(fault(*[f(name) for name in "abcdefgh"]))
        self.assertIsNone(fault(f()))

    def test_count_comes_first(self):
        self.assertEqual(fault(*[f("half", (), (), Name("z"))] * 9), ("count", -1, -1))


class HeadTest(unittest.TestCase):

    def test_names(self):
        for name in ("half", "", "A", "abcdefghi", "a1", None, 3, [], "give"):
            self.assertEqual(fault(f(name)), ("name", 0, -1))
            self.assertEqual(fault(f("g"), f(name)), ("name", 1, -1))
        self.assertEqual(fault(f(), f("g"), f()), ("name", 2, -1))
        self.assertIsNone(fault(f("abcdefgh")))

    def test_inputs(self):
        for inputs in ((), ("x", "y", "z", "u"), ("half",), ("x", "A"), ("x", "x"), ("x", "y", "x"), (3,), ("",),
                       (["x"],), ("x", None)):
            self.assertEqual(fault(f("f", inputs)), ("inputs", 0, -1))
        for inputs in (("x",), ("y", "x"), ("x", "y", "z")):
            self.assertIsNone(fault(f("f", inputs)))

    def test_inputs_may_be_names_of_functions(self):
        self.assertIsNone(fault(f("x"), f("g", ("x", "g"), (), Call("x", (X,)))))
        library = Library([f("x", ("x",), (), X * X), f("g", ("x",), (), Call("x", (X + ONE,)))])
        self.assertEqual(library.piece("g")((4,)), 25)

    def test_name_comes_before_inputs(self):
        self.assertEqual(fault(f("half", ())), ("name", 0, -1))
        self.assertEqual(fault(f(), f("f", ("x", "x"))), ("name", 1, -1))


class BoundTest(unittest.TestCase):

    def test_names_of_lets(self):
        for name in ("half", "", "B", None, 3, ["a"]):
            self.assertEqual(row_fault(Let(name, X)), ("bound", 0))
        self.assertEqual(row_fault(Let("x", X)), ("bound", 0))
        self.assertEqual(row_fault(Let("a", X), Let("a", X)), ("bound", 1))
        self.assertEqual(row_fault(repeat(), Let("s", X)), ("bound", 1))
        self.assertIsNone(row_fault(Let("a", X), Let("b", X), Let("f", X), Let("g", X)))

    def test_names_of_repeats(self):
        for name in ("half", "", "B", None, 3, ["s"]):
            self.assertEqual(row_fault(repeat((name,), (X,), (ONE,))), ("bound", 0))
            self.assertEqual(row_fault(repeat(("s", name), (X, X), (ONE, ONE))), ("bound", 0))
        self.assertEqual(row_fault(repeat(("x",), (X,), (ONE,))), ("bound", 0))
        self.assertEqual(row_fault(repeat(("s", "x"), (X, X), (S, S))), ("bound", 0))
        self.assertEqual(row_fault(repeat(("s", "s"), (X, X), (S, S))), ("bound", 0))
        self.assertEqual(row_fault(Let("t", X), repeat(("s", "t"), (X, X), (S, S))), ("bound", 1))

    def test_numbers_of_repeats(self):
        self.assertEqual(row_fault(repeat((), (), ())), ("bound", 0))
        self.assertEqual(row_fault(repeat(("s", "t", "u"), (X,) * 3, (S,) * 3)), ("bound", 0))
        self.assertEqual(row_fault(repeat(("s",), (X, X), (S,))), ("bound", 0))
        self.assertEqual(row_fault(repeat(("s",), (), (S,))), ("bound", 0))
        self.assertEqual(row_fault(repeat(("s",), (X,), (S, S))), ("bound", 0))
        self.assertEqual(row_fault(repeat(("s", "t"), (X, X), (S,))), ("bound", 0))
        self.assertEqual(row_fault(repeat(("s", "t"), (X,), (S, S))), ("bound", 0))
        self.assertIsNone(row_fault(repeat(("s", "t"), (X, ONE), (T, S))))

    def test_times(self):
        for times in (-1, 10 ** 18 + 1, True, False, None, "3", 2.0):
            self.assertEqual(row_fault(repeat(times=times)), ("bound", 0))
        for times in (0, 1, 10 ** 18):
            self.assertIsNone(row_fault(repeat(times=times)))


class NodesTest(unittest.TestCase):

    def test_unknown(self):
        self.assertEqual(row_fault(Let("a", Half(Name("b")))), ("unknown", 0))
        self.assertEqual(row_fault(Let("a", Name("a"))), ("unknown", 0))
        self.assertEqual(row_fault(Let("a", Name("b")), Let("b", X)), ("unknown", 0))
        self.assertEqual(row_fault(result=Name("f")), ("unknown", 0))
        self.assertEqual(row_fault(Let("a", X), result=Call("g", (X, Name("b")))), ("unknown", 1))
        self.assertEqual(row_fault(repeat(("s",), (S,), (S,))), ("unknown", 0))
        self.assertEqual(row_fault(repeat(("s", "t"), (X, S), (S, T))), ("unknown", 0))
        self.assertIsNone(row_fault(Let("a", X), repeat(("s", "t"), (Name("a"), X), (T, S)), result=S + T + Name("a")))

    def test_call(self):
        for call in (Call("h", (X,)), Call("f", (X,)), Call("x", (X,)), Call("g", (X,)), Call("g", (X, X, X))):
            self.assertEqual(row_fault(Let("a", X), Let("b", Half(call))), ("call", 1))
            self.assertEqual(row_fault(repeat(("s",), (ONE + call,), (S,))), ("call", 0))
            self.assertEqual(row_fault(Let("a", X), result=call), ("call", 1))
        self.assertEqual(fault(f("f", ("x",), (), Call("g", (X,))), f("g")), ("call", 0, 0))
        self.assertIsNone(row_fault(Let("a", Call("g", (X, ONE))), result=Call("g", (Call("g", (X, X)), X))))

    def test_step(self):
        for step in (X, Name("a"), Name("g"), Half(S), S // S, Raised(S, S), Choose(S, 2, 0, S, S), Call("g", (S, S)),
                     Call("h", (S,)), S + X, Power(S * Half(S), 2)):
            self.assertEqual(row_fault(Let("a", X), repeat(("s",), (X,), (step,))), ("step", 1))
            self.assertEqual(row_fault(repeat(("s", "t"), (X, X), (S, step))), ("step", 0))
        self.assertEqual(row_fault(repeat(("s",), (X,), (T,))), ("step", 0))
        for step in (S, ONE, S + ONE, S - ONE, S * S, Power(S + ONE, 64), -S):
            self.assertIsNone(row_fault(repeat(("s",), (X,), (step,))))


class OrderTest(unittest.TestCase):

    def test_in_a_row(self):
        self.assertEqual(row_fault(Let("x", Name("z"))), ("bound", 0))
        self.assertEqual(row_fault(Let("x", Call("h", (X,)))), ("bound", 0))
        self.assertEqual(row_fault(Let("a", Call("h", (Name("z"),)))), ("unknown", 0))
        self.assertEqual(row_fault(Let("a", Call("h", (X,)) + Name("z"))), ("unknown", 0))
        self.assertEqual(row_fault(repeat(("x",), (Name("z"),), (X,))), ("bound", 0))
        self.assertEqual(row_fault(repeat(("s",), (Name("z"),), (X,))), ("unknown", 0))
        self.assertEqual(row_fault(repeat(("s",), (Call("h", (X,)),), (X,))), ("call", 0))
        # Each is looked for in the whole row before the next one.
        self.assertEqual(row_fault(repeat(("s", "t"), (Call("h", (X,)), Name("z")), (S, T))), ("unknown", 0))
        self.assertEqual(row_fault(repeat(("s", "t"), (X, Call("h", (X,))), (X, T))), ("call", 0))
        self.assertEqual(row_fault(repeat(("s", "x"), (Name("z"), X), (S, S))), ("bound", 0))
        self.assertEqual(row_fault(repeat(("s",), (Name("z"),), (S,), -1)), ("bound", 0))

    def test_row_by_row(self):
        self.assertEqual(row_fault(Let("a", Call("h", (X,))), Let("x", X)), ("call", 0))
        self.assertEqual(row_fault(repeat(steps=(X,)), Let("x", X)), ("step", 0))
        self.assertEqual(row_fault(Let("a", X), Let("b", Name("z")), Let("a", X)), ("unknown", 1))
        self.assertEqual(row_fault(Let("a", Name("z")), result=Name("z")), ("unknown", 0))
        self.assertEqual(row_fault(Let("a", X), Let("x", X), result=Name("z")), ("bound", 1))

    def test_function_by_function(self):
        wrong = f("g", ("x",), (), Name("z"))
        self.assertEqual(fault(wrong, f("half")), ("unknown", 0, 0))
        self.assertEqual(fault(f("a"), wrong, f("b", ())), ("unknown", 1, 0))
        self.assertEqual(fault(f("f", ("x", "x"), (Let("x", X),), Name("z"))), ("inputs", 0, -1))

    def test_all_before_not_odd(self):
        uneven = f("f", ("x",), (), ONE // X)
        self.assertEqual(fault(uneven, f("half")), ("name", 1, -1))
        self.assertEqual(fault(uneven, f("g", ("x",), (), Name("z"))), ("unknown", 1, 0))
        with self.assertRaises(NotOdd):
            Library([uneven, f("g")])


class NotOddTest(unittest.TestCase):

    def test_odd_everywhere(self):
        for result in ("1 over 1", "1 over ( 2 * x + 1 )", "x over ( x * ( x + 1 ) - 7 )", "3 to x", "-1 to x",
                       "( 4 * x - 1 ) to half x", "1 over ( x ** 0 )", "1 over ( 2 * half x + 1 )",
                       "1 over ( 1 over ( 2 * x + 1 ) )", "1 over ( 3 to x )"):
            self.assertIsNone(not_odd(f"function f x ; give {result}"), result)

    def test_even_somewhere(self):
        for result, point in (("1 over x", 0), ("1 over ( x + 1 )", 1), ("1 over 2", 0), ("x to 2", 0), ("x to x", 0),
                              ("( x + 1 ) to 3", 1), ("0 to 0", 0), ("1 over half x", 0), ("1 over ( half x + 1 )", 2),
                              ("1 over ( half ( x - 1 ) )", 2), ("1 over ( half half x + 1 )", 4),
                              ("1 over half ( x * ( x + 1 ) )", 0), ("1 over ( half ( x * ( x + 1 ) ) + 1 )", 2)):
            self.assertEqual(not_odd(f"function f x ; give {result}"), ("f", (point,)), result)

    def test_two_and_three_inputs(self):
        self.assertEqual(not_odd("function f x y ; give 1 over ( x + y + 1 )"), ("f", (0, 1)))
        self.assertEqual(not_odd("function f x y ; give 1 over ( x * half y + 1 )"), ("f", (1, 2)))
        self.assertEqual(not_odd("function f x y z ; give x over ( y * z + 1 )"), ("f", (0, 1, 1)))
        self.assertIsNone(not_odd("function f x y z ; give x over ( 2 * y * z + 1 )"))

    def test_branches(self):
        for result in ("( if x mod 2 is 1 then 1 over x else 0 )", "( if x mod 2 is 0 then 0 else x to x )",
                       "( if x mod 4 is 2 then 1 over half x else 1 )", "( if 0 mod 2 is 1 then 1 over 2 else x )",
                       "( if x mod 2 is 1 then ( if x mod 2 is 0 then 1 over 2 else x ) else x )"):
            self.assertIsNone(not_odd(f"function f x ; give {result}"), result)
        for result, point in (("( if x mod 2 is 0 then 1 over x else 0 )", 0),
                              ("( if x mod 4 is 3 then 1 over ( x + 1 ) else 0 )", 3),
                              ("( if x mod 8 is 5 then x else 1 over ( 2 * x ) )", 0),
                              ("( if x mod 2 is 1 then ( if x mod 4 is 3 then 1 over 2 else x ) else x )", 3),
                              ("( if 1 over x mod 2 is 0 then x else x )", 0)):
            self.assertEqual(not_odd(f"function f x ; give {result}"), ("f", (point,)), result)

    def test_what_is_computed_though_not_used(self):
        self.assertEqual(not_odd("function f x ; let a = 1 over x ; give 0"), ("f", (0,)))
        self.assertEqual(not_odd("function f x ; let a = 1 over x ; give ( if 0 mod 2 is 0 then 0 else a )"), ("f", (0,)))
        self.assertEqual(not_odd("function f x ; repeat s = x to x by 1 times 0 ; give 0"), ("f", (0,)))
        self.assertEqual(not_odd("function f x ; repeat s , t = 1 , 1 over ( x + 1 ) by 1 , 1 times 3 ; give 0"),
                         ("f", (1,)))
        self.assertEqual(not_odd("function f x ; give ( 1 over x ) ** 0"), ("f", (0,)))
        self.assertEqual(not_odd("function g x ; give 0 ; function f x ; give g ( 1 over x )"), ("f", (0,)))
        self.assertEqual(not_odd("function f x ; give 0 * ( 1 over ( x + 1 ) )"), ("f", (1,)))
        self.assertEqual(not_odd("function f x ; give 1 to ( 1 over x )"), ("f", (0,)))

    def test_names_and_calls(self):
        self.assertIsNone(not_odd("function f x ; let a = 2 * x + 1 ; let b = a * a ; give 1 over ( a * b )"))
        self.assertEqual(not_odd("function f x ; let a = x + 1 ; let b = 3 * a ; give 1 over b"), ("f", (1,)))
        self.assertIsNone(not_odd("function g x ; give 2 * x + 1 ; function f x ; give 1 over g ( x )"))
        self.assertEqual(not_odd("function g x ; give half x ; function f x ; give 1 over g ( x + 1 )"), ("f", (0,)))
        self.assertEqual(not_odd("function g x ; give half x + 1 ; function f x ; give 1 over g ( x )"), ("f", (2,)))
        self.assertIsNone(not_odd("function f x ; repeat s = 1 by s * s + 2 times 1000000000000000000 ; give 1 over s"))
        self.assertEqual(not_odd("function f x ; repeat s = x by s * s + s + 1 times 7 ; let a = s + x ; give 1 over a"),
                         ("f", (1,)))
        self.assertEqual(not_odd("function f x ; repeat s , t = x , 1 by t , s times 1000001 ; give 1 over t"),
                         ("f", (0,)))

    def test_even_values_behind_even_ones(self):
        # Whatever is computed from 1 over x at x = 0, the point is the first one.
        self.assertEqual(not_odd("function f x ; give 1 over ( 1 over x )"), ("f", (0,)))
        self.assertEqual(not_odd("function f x ; let a = 1 over x ; let b = 1 over ( a + 1 ) ; give a"), ("f", (0,)))

    def test_first_function(self):
        text = "function a x ; give 3 to x ; function b x ; give 1 over ( x + 1 ) ; function c x ; give 1 over x"
        self.assertEqual(not_odd(text), ("b", (1,)))
        self.assertEqual(not_odd("function g x ; give 1 over x ; function f x ; give g ( 2 * x + 1 )"), ("g", (0,)))

    def test_point_is_a_tuple(self):
        with self.assertRaises(NotOdd) as caught:
            Library([f("f", ["x", "y"], [], Over(ONE, Y))])
        self.assertEqual((caught.exception.name, caught.exception.point), ("f", (0, 0)))
        self.assertIsInstance(caught.exception.point, tuple)


class LibraryTest(unittest.TestCase):

    def setUp(self):
        self.functions = [f("f", ("x",), (), X * X), f("g", ("x", "y"), (), Call("f", (X,)) + Half(Y))]
        self.library = Library(self.functions)

    def test_attributes(self):
        self.assertEqual(self.library.functions, tuple(self.functions))
        self.assertEqual(self.library.names, ("f", "g"))
        self.assertEqual(Library(functions=(f(),)).names, ("f",))

    def test_emptied_list(self):
        self.functions.clear()
        self.assertEqual(len(self.library), 2)
        self.assertEqual(self.library.piece("g")((3, 5)), 11)

    def test_len_and_in(self):
        self.assertEqual(len(self.library), 2)
        for name in ("f", "g"):
            self.assertTrue(name in self.library)
        for name in ("h", "", "half", "F", "fg", "any string"):
            self.assertFalse(name in self.library)

    def test_equal(self):
        self.assertTrue(self.library == Library(tuple(self.functions)))
        self.assertFalse(self.library != Library(tuple(self.functions)))
        other = f("h", ("x", "y"), (), Y)
        self.assertTrue(Library([self.functions[0], other]) != Library([other, self.functions[0]]))
        self.assertFalse(self.library == Library(self.functions[:1]))
        self.assertFalse(self.library == Library([self.functions[0], f("g", ("x", "y"), (), X)]))
        for other in (None, tuple(self.functions), self.functions, "f", self.library.piece("f")):
            self.assertFalse(self.library == other)

    def test_equal_whatever_was_computed(self):
        other = Library(self.functions)
        other.piece("g")((1, 2))
        self.assertTrue(self.library == other)
        self.assertTrue(self.library.piece("g") == other.piece("g"))

    def test_piece(self):
        piece = self.library.piece("g")
        self.assertIsInstance(piece, Piece)
        self.assertIs(piece.library, self.library)
        self.assertEqual((piece.name, piece.inputs, piece.loss, piece.most), ("g", 2, (0, 1), 64))
        self.assertIsInstance(piece.loss, tuple)
        self.assertEqual(self.library.piece(name="f").inputs, 1)

    def test_unknown_name(self):
        for name in ("h", "", "F", "x"):
            with self.assertRaises(UnknownName) as caught:
                self.library.piece(name)
            self.assertEqual(caught.exception.name, name)

    def test_pieces_are_equal(self):
        same = Library(self.functions)
        self.assertTrue(self.library.piece("f") == same.piece("f"))
        self.assertFalse(self.library.piece("f") == self.library.piece("g"))
        # The libraries have to be equal, even where the functions are.
        self.assertFalse(self.library.piece("f") == Library(self.functions[:1]).piece("f"))
        for other in (None, "f", self.library, self.functions[0]):
            self.assertFalse(self.library.piece("f") == other)

    def test_edited(self):
        cube = f("f", ("x",), (), X * X * X)
        edited = self.library.edited(cube)
        self.assertEqual(edited, Library([cube, self.functions[1]]))
        self.assertEqual(edited.piece("g")((3, 5)), 29)
        self.assertEqual(self.library.piece("g")((3, 5)), 11)
        last = f("h", ("x",), (), Call("g", (X, X)))
        self.assertEqual(self.library.edited(function=last).names, ("f", "g", "h"))

    def test_edited_raises_errors(self):
        for function, found in ((f("half"), ("name", 2, -1)), (f("f", ("x", "y"), (), X), ("call", 1, 0)),
                                (f("f", ("x",), (), Call("g", (X, X))), ("call", 0, 0)),
                                (f("g", ()), ("inputs", 1, -1)), (f(None), ("name", 2, -1))):
            with self.assertRaises(InvalidLibrary) as caught:
                self.library.edited(function)
            error = caught.exception
            self.assertEqual((error.word, error.function, error.row), found)
        with self.assertRaises(NotOdd) as caught:
            self.library.edited(f("g", ("x", "y"), (), X // Call("f", (X,))))
        self.assertEqual((caught.exception.name, caught.exception.point), ("g", (0, 0)))
        whole = Library([f(name) for name in "abcdefgh"])
        with self.assertRaises(InvalidLibrary) as caught:
            whole.edited(f("i"))
        self.assertEqual(caught.exception.word, "count")
        self.assertEqual(len(whole.edited(f("h", ("x",), (), ONE))), 8)

    def test_errors_are_low_errors(self):
        with self.assertRaises(LowError):
            Library([])
        with self.assertRaises(ValueError):
            Library([f("f", ("x",), (), Over(X, X))])

    def test_nodes_of_the_functions_are_kept(self):
        self.assertEqual(self.library.functions[1].result, read_node("f ( x ) + half y"))
        self.assertEqual(self.library.functions[1].result, Add(Call("f", (X,)), Half(Y)))


if __name__ == "__main__":
    unittest.main()
