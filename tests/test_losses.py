"""Promise 20: the losses of functions."""

import unittest

from lowsure.library import Library


def loss(result, inputs="x y", rows=(), others=""):
    """The loss of a function that calls others."""
    text = "\n".join([*[row for row in others.split(" ; ") if row], f"function f {inputs}", *rows, f"give {result}"])
    return Library.read(text).piece("f").loss


class LossTest(unittest.TestCase):

    def test_numbers_and_names(self):
        for result in ("3", "x", "y", "x + y", "x - y", "x * y", "x over 3", "x ** 64", "x ** 0", "x over ( 2 * y + 1 )"):
            self.assertEqual(loss(result), (0, 0))

    def test_half(self):
        self.assertEqual(loss("half x"), (1, 0))
        self.assertEqual(loss("half ( x * y )"), (1, 1))
        self.assertEqual(loss("half half ( y + 3 )"), (0, 2))
        self.assertEqual(loss("half 3"), (0, 0))
        self.assertEqual(loss("half half 3 + half x"), (1, 0))
        # What is named counts, not what matters.
        self.assertEqual(loss("half ( 0 * x )"), (1, 0))
        self.assertEqual(loss("half ( x - x )"), (1, 0))
        self.assertEqual(loss("half ( x ** 0 )"), (1, 0))

    def test_greatest(self):
        for sign in ("+", "-", "*"):
            self.assertEqual(loss(f"half half x {sign} half ( x + y )"), (2, 1))
        self.assertEqual(loss("half half x over ( 2 * half y + 1 )"), (2, 1))
        self.assertEqual(loss("half ( half x + y )"), (2, 1))
        self.assertEqual(loss("( half x ) ** 3"), (1, 0))

    def test_raised(self):
        self.assertEqual(loss("3 to x"), (0, 0))
        self.assertEqual(loss("3 to half x"), (1, 0))
        self.assertEqual(loss("( 2 * x + 1 ) to y"), (1, 0))
        self.assertEqual(loss("( 2 * x + 1 ) to ( x + y )"), (1, 0))
        self.assertEqual(loss("( 2 * half x + 1 ) to half y"), (2, 1))
        self.assertEqual(loss("half ( 3 to y )"), (0, 1))

    def test_choose(self):
        for j in (1, 2, 3, 4, 5, 6):
            self.assertEqual(loss(f"( if x mod {2 ** j} is 0 then 1 else 0 )"), (j, 0))
        self.assertEqual(loss("( if half x mod 4 is 0 then y else half half y )"), (3, 2))
        self.assertEqual(loss("( if 3 mod 64 is 0 then x else y )"), (0, 0))
        self.assertEqual(loss("half ( if y mod 2 is 0 then x else 1 )"), (1, 2))

    def test_rows(self):
        self.assertEqual(loss("0", rows=["let a = half x"]), (1, 0))
        self.assertEqual(loss("half a", rows=["let a = half x + y"]), (2, 1))
        self.assertEqual(loss("half b", rows=["let a = 3", "let b = half half a"]), (0, 0))
        self.assertEqual(loss("s", rows=["repeat s = half x by s * s times 0"]), (1, 0))
        self.assertEqual(loss("half s", rows=["repeat s = x by 7 times 3"]), (1, 0))
        self.assertEqual(loss("half t", rows=["repeat s , t = half x , y by s , t times 3"]), (2, 1))
        self.assertEqual(loss("half t", rows=["repeat s , t = x , 3 by s , t times 3"]), (1, 0))
        self.assertEqual(loss("half s", rows=["repeat s = 5 by s + 1 times 3"]), (0, 0))
        self.assertEqual(loss("x", rows=["repeat s = half half y by s times 3", "let a = half half half x"]), (3, 2))

    def test_calls(self):
        others = "function g x y ; give half x + half half y"
        self.assertEqual(loss("g ( x , y )", others=others), (1, 2))
        self.assertEqual(loss("g ( y , x )", others=others), (2, 1))
        self.assertEqual(loss("g ( half x , 3 )", others=others), (2, 0))
        self.assertEqual(loss("g ( x + y , x )", others=others), (2, 1))
        self.assertEqual(loss("half g ( 3 , y )", others=others), (0, 3))
        self.assertEqual(loss("g ( 1 , 2 )", others=others), (0, 0))
        self.assertEqual(loss("half g ( x , 2 )", others="function g x y ; give y"), (1, 0))
        self.assertEqual(loss("h ( x , x )", others=others + " ; function h x y ; give g ( half x , y )"), (2, 0))
        # A row that does not matter counts in the called function, too.
        self.assertEqual(loss("g ( y )", others="function g x ; let a = half x ; give 0"), (0, 1))

    def test_kinds(self):
        self.assertEqual(loss("half x", "x"), (1,))
        self.assertEqual(loss("half x + half half z", "x y z"), (1, 0, 2))
        self.assertIsInstance(loss("x"), tuple)


if __name__ == "__main__":
    unittest.main()
