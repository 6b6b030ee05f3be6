"""Promise 18: the texts of libraries."""

import random
import unittest

from lowsure.errors import InvalidLibrary, InvalidText, NotOdd
from lowsure.library import Library
from lowsure.librarytexts import show_library
from lowsure.nodetexts import read_node
from lowsure.rows import Function, Let, Repeat
from tests.made import random_function

TEXT = """function f x y
let a = half ( x + 1 )
repeat s = a by s * s + 1 times 0
repeat t , u = x , g ( x , y ) by u , t + u ** 3 times 1000000000000000000
give ( if s mod 8 is 7 then t else -u )"""


def wrong_row(text):
    """The row that Library.read refuses, or None if it reads the text."""
    try:
        Library.read(text)
    except InvalidText as error:
        return error.at
    except (InvalidLibrary, NotOdd):
        return None
    return None


class ShowTest(unittest.TestCase):

    def test_text(self):
        functions = [
            Function("g", ("x", "y"), (), read_node("3")),
            Function("f", ("x", "y"), (
                Let("a", read_node("half ( x + 1 )")),
                Repeat(("s",), (read_node("a"),), (read_node("s * s + 1"),), 0),
                Repeat(("t", "u"), (read_node("x"), read_node("g ( x , y )")),
                       (read_node("u"), read_node("t + u ** 3")), 10 ** 18),
            ), read_node("( if s mod 8 is 7 then t else 0 - u )")),
        ]
        text = "function g x y\ngive 3\n" + TEXT.replace("-u", "0 - u")
        self.assertEqual(show_library(Library(functions)), text)
        self.assertEqual(show_library(library=Library.read(text)), text)
        self.assertEqual(Library.read(text), Library(functions))

    def test_one_function(self):
        self.assertEqual(show_library(Library([Function("f", ("x",), (), read_node("x"))])), "function f x\ngive x")

    def test_made_functions(self):
        for seed in range(100):
            source = random.Random(seed)
            function = random_function(source, "f", ())
            try:
                library = Library([function])
            except NotOdd:
                continue
            self.assertEqual(Library.read(show_library(library)), library)


class ReadTest(unittest.TestCase):

    def test_rows(self):
        library = Library.read(text="function g x y\ngive 3\n" + TEXT.replace("-u", "0 - u"))
        function = library.functions[1]
        self.assertEqual((function.name, function.inputs, len(function.rows)), ("f", ("x", "y"), 3))
        self.assertEqual(function.rows[0], Let("a", read_node("half ( x + 1 )")))
        self.assertEqual((function.rows[1].names, function.rows[1].times), (("s",), 0))
        self.assertEqual(function.rows[2].names, ("t", "u"))
        self.assertEqual(function.rows[2].starts, (read_node("x"), read_node("g ( x , y )")))
        self.assertEqual(function.rows[2].steps, (read_node("u"), read_node("t + u ** 3")))
        self.assertEqual(function.rows[2].times, 10 ** 18)

    def test_class_method_makes_a_library(self):
        self.assertIsInstance(Library.read("function f x\ngive x"), Library)
        self.assertEqual(Library.read("function f x\ngive ( x )"), Library.read("function f x\ngive x"))

    def test_commas_in_calls(self):
        head = "function g x y\ngive x\nfunction f x\n"
        row = "repeat s , t = g ( x , g ( 1 , x ) ) , ( x ) by ( s ) , t times 3"
        self.assertEqual(Library.read(head + row + "\ngive s").functions[1].rows[0].starts,
                         (read_node("g ( x , g ( 1 , x ) )"), read_node("x")))
        self.assertEqual(wrong_row(head + "repeat s = g ( x , 1 ) , x by s times 3\ngive s"), 3)
        self.assertEqual(wrong_row(head + "repeat s , t = g ( x , 1 ) by s , t times 3\ngive s"), 3)

    def test_rows_that_cannot_stand(self):
        self.assertEqual(wrong_row(""), 0)
        self.assertEqual(wrong_row("\n"), 0)
        for head in ("function", "function f", "function f ", "function  f x", " function f x", "function f x ",
                     "function f A", "function half x", "function f half", "function F x", "function f 3", "give x",
                     "let a = 3", "functions f x", "function f x , y", "function f (x)", "FUNCTION f x", "function f x\t"):
            self.assertEqual(wrong_row(head + "\ngive 3"), 0, head)
        for row in ("let", "let a", "let a =", "let a = ", "let  a = 3", "let a = 3 ", "let a 3", "let a = = 3", "a = 3",
                    "let A = 3", "let half = 3", "let a = half", "let a = 3 4", "let a , b = 3 , 4", "let a = x mod 2",
                    "let a = ( x", "let a = x ** 65", "let a = 18446744073709551616", "let 3 = x", "let a := 3", "",
                    " ", "give", "give ", "give x y", "give  x", "give half", "function g x", "times", "x"):
            self.assertEqual(wrong_row("function f x\n" + row + "\ngive x"), 1, row)

    def test_repeats_that_cannot_stand(self):
        self.assertIsNone(wrong_row("function f x\nrepeat a = x by a times 3\ngive x"))
        self.assertIsNone(wrong_row("function f x\nrepeat a , b = x , x by a , b times 3\ngive x"))
        for row in ("repeat", "repeat a", "repeat a = x", "repeat a = x by a", "repeat a = x by a times",
                    "repeat a = x by a times 3 4", "repeat a = x by a times x", "repeat a = x by a times -1",
                    "repeat a = x by a times 03", "repeat a = x by a times 00", "repeat a = x by a times ( 3 )",
                    "repeat a = x by a time 3", "repeat a = x by a , 3", "repeat a = x by a by 3",
                    "repeat a = x by a times 3 ", "repeat a = x times 3", "repeat a = by a times 3",
                    "repeat a = x by times 3", "repeat = x by a times 3", "repeat a x by a times 3",
                    "repeat A = x by a times 3", "repeat half = x by a times 3", "repeat 3 = x by a times 3",
                    "repeat a = x by a times 100000000000000000000", "repeat a = x by a by a times 3",
                    "repeat a = x by a times 3 times 3", "repeat a = x = x by a times 3", "by a = x repeat a times 3",
                    "repeat a by a = x times 3", "repeat a , = x by a times 3", "repeat , a = x by a times 3",
                    "repeat a b = x , x by a , b times 3", "repeat a , b , c = x , x , x by a , b , c times 3",
                    "repeat a , b = x by a , b times 3", "repeat a , b = x , x by a times 3",
                    "repeat a = x , x by a times 3", "repeat a = x by a , a times 3",
                    "repeat a , b = x , by a , b times 3", "repeat a , b = , x by a , b times 3",
                    "repeat a , b = x , x , x by a , b times 3", "repeat a , b = x , x by a , times 3",
                    "repeat a , b = ( x , x ) by a , b times 3", "repeat a , b = ) , ( by a , b times 3",
                    "repeat a - b = x , x by a , b times 3", "repeat a, b = x , x by a , b times 3",
                    "repeat a = x by a times \u0663", "repeat a = x by a times 1_0", "repeat a = x by a times +3"):
            self.assertEqual(wrong_row("function f x\n" + row + "\ngive x"), 1, row)

    def test_first_wrong_row(self):
        self.assertEqual(wrong_row("function f x\nlet a = 3\nlet b = )\nlet c = ("), 2)
        self.assertEqual(wrong_row("function f x\ngive x\n"), 2)
        self.assertEqual(wrong_row("function f x\ngive x\ngive x"), 2)
        self.assertEqual(wrong_row("function f x\ngive x\nlet a = 3"), 2)
        self.assertEqual(wrong_row("function f x\ngive x\n\nfunction g x\ngive x"), 2)
        self.assertEqual(wrong_row("function f x\ngive x\nfunction g x\nfunction h x"), 3)

    def test_missing_rows(self):
        self.assertEqual(wrong_row("function f x"), 1)
        self.assertEqual(wrong_row("function f x\nlet a = 3"), 2)
        self.assertEqual(wrong_row("function f x\ngive x\nfunction g x\nlet a = 3"), 4)
        self.assertEqual(wrong_row("function f x\n"), 1)

    def test_texts_come_before_libraries(self):
        for text, at in (("function f x\ngive y\nfunction g x\ngive", 3), ("function f x x\nlet a = 1 over x", 2)):
            self.assertEqual(wrong_row(text), at)

    def test_errors_of_libraries(self):
        for text, found in (
                ("function f x y z u\ngive x", ("inputs", 0, -1)), ("function f x x\ngive x", ("inputs", 0, -1)),
                ("function f x\ngive x\nfunction f x\ngive x", ("name", 1, -1)), ("function f x\ngive y", ("unknown", 0, 0)),
                ("function f x\nlet x = 3\ngive x", ("bound", 0, 0)),
                ("function f x\nrepeat a , a = x , x by a , a times 3\ngive x", ("bound", 0, 0)),
                ("function f x\nrepeat a = x by a times 1000000000000000001\ngive x", ("bound", 0, 0)),
                ("function f x\nrepeat a = x by a times 99999999999999999999\ngive x", ("bound", 0, 0)),
                ("function f x\nrepeat a = x by x times 3\ngive x", ("step", 0, 0)),
                ("function f x\ngive f ( x )", ("call", 0, 0)),
                ("\n".join([f"function {name} x\ngive x" for name in "abcdefghi"]), ("count", -1, -1))):
            with self.assertRaises(InvalidLibrary) as caught:
                Library.read(text)
            error = caught.exception
            self.assertEqual((error.word, error.function, error.row), found)
        with self.assertRaises(NotOdd):
            Library.read("function f x\ngive 1 over x")

    def test_zero_times(self):
        self.assertEqual(Library.read("function f x\nrepeat s = x by 7 times 0\ngive s").piece("f")((5,)), 5)


if __name__ == "__main__":
    unittest.main()
