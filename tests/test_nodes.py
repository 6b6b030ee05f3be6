"""Promises 10 and 11 (and 1 to 3 for nodes): what nodes refuse, their operators and methods."""

import unittest

from lowsure.errors import InvalidNode
from lowsure.nodes import (Add, Call, Choose, Half, Multiply, Name, Node, Number, Over, Power, Raised, Subtract)

A, B, C = Name("a"), Name("b"), Name("c")
WORDS = ["function", "let", "repeat", "by", "times", "give", "half", "over", "to", "if", "mod", "is", "then", "else"]
NO_NAMES = [*WORDS, "", "abcdefghi", "A", "aB", "a1", "a_", " a", "a ", "a b", "\u00e9", "\u0430", "-", None, 3, True,
            ("a",), ["a"], b"a", A]
NO_INTEGERS = [True, False, None, "1", 1.0, (1,), A]


def one_of_each():
    return [Number(3), Name("a"), Add(A, B), Subtract(A, B), Multiply(A, B), Half(A), Over(A, B), Power(A, 3),
            Raised(A, B), Choose(A, 4, 1, B, C), Call("f", (A, B))]


class ConstructorTest(unittest.TestCase):

    def test_classes(self):
        for node in one_of_each():
            self.assertIsInstance(node, Node)

    def test_attributes(self):
        self.assertEqual(Number(-7).value, -7)
        self.assertEqual(Name("abcdefgh").name, "abcdefgh")
        for made in (Add, Subtract, Multiply):
            node = made(A, B)
            self.assertEqual((node.one, node.other), (A, B))
        self.assertEqual(Half(A).inner, A)
        self.assertEqual((Over(A, B).top, Over(A, B).bottom), (A, B))
        self.assertEqual((Power(A, 64).base, Power(A, 64).times), (A, 64))
        self.assertEqual((Raised(A, B).base, Raised(A, B).exponent), (A, B))
        node = Choose(A, 8, 7, B, C)
        self.assertEqual((node.tested, node.modulus, node.rest, node.yes, node.no), (A, 8, 7, B, C))
        self.assertEqual((Call("f", [A, B]).name, Call("f", [A, B]).arguments), ("f", (A, B)))

    def test_parameter_names(self):
        self.assertEqual(Number(value=3), Number(3))
        self.assertEqual(Name(name="a"), A)
        for made in (Add, Subtract, Multiply):
            self.assertEqual(made(other=B, one=A), made(A, B))
        self.assertEqual(Half(inner=A), Half(A))
        self.assertEqual(Over(bottom=B, top=A), Over(A, B))
        self.assertEqual(Power(times=2, base=A), Power(A, 2))
        self.assertEqual(Raised(exponent=B, base=A), Raised(A, B))
        self.assertEqual(Choose(no=C, yes=B, rest=1, modulus=2, tested=A), Choose(A, 2, 1, B, C))
        self.assertEqual(Call(arguments=(A,), name="f"), Call("f", (A,)))

    def test_numbers(self):
        for value in (0, 1, -1, 2 ** 64 - 1, 1 - 2 ** 64):
            self.assertEqual(Number(value).value, value)
        for value in (2 ** 64, -2 ** 64, 2 ** 64 + 1, 10 ** 30, -10 ** 30, *NO_INTEGERS):
            with self.assertRaises(InvalidNode):
                Number(value)

    def test_names(self):
        for name in ("a", "z", "abcdefgh", "halfs", "gives", "iff", "zzzzzzzz"):
            self.assertEqual(Name(name).name, name)
            self.assertEqual(Call(name, (A,)).name, name)
        for name in NO_NAMES:
            with self.assertRaises(InvalidNode):
                Name(name)
            with self.assertRaises(InvalidNode):
                Call(name, (A,))

    def test_times(self):
        for times in (0, 1, 63, 64):
            self.assertEqual(Power(A, times).times, times)
        for times in (-1, 65, 2 ** 64, *NO_INTEGERS):
            with self.assertRaises(InvalidNode):
                Power(A, times)

    def test_modulus_and_rest(self):
        for modulus in (2, 4, 8, 16, 32, 64):
            for rest in (0, 1, modulus - 1):
                self.assertEqual(Choose(A, modulus, rest, B, C).rest, rest)
            for rest in (-1, modulus, modulus + 1, *NO_INTEGERS):
                with self.assertRaises(InvalidNode):
                    Choose(A, modulus, rest, B, C)
        for modulus in (-2, 0, 1, 3, 6, 12, 63, 65, 128, 2.0, *NO_INTEGERS):
            with self.assertRaises(InvalidNode):
                Choose(A, modulus, 0, B, C)

    def test_calls_need_arguments(self):
        for arguments in ((), []):
            with self.assertRaises(InvalidNode):
                Call("f", arguments)

    def test_emptied_arguments(self):
        arguments = [A, B]
        node = Call("f", arguments)
        arguments.clear()
        self.assertEqual(node.arguments, (A, B))
        self.assertIsInstance(node.arguments, tuple)

    def test_what_is_not_refused(self):
        # Whether a bottom or a base is odd is for the library to say.
        Over(A, Number(0))
        Raised(Number(2), A)
        Power(Number(0), 0)
        Call("f", [A] * 5)


class OperatorTest(unittest.TestCase):

    def test_operators(self):
        self.assertEqual(A + B, Add(A, B))
        self.assertEqual(A - B, Subtract(A, B))
        self.assertEqual(A * B, Multiply(A, B))
        self.assertEqual(A // B, Over(A, B))
        self.assertEqual(-A, Subtract(Number(0), A))
        self.assertEqual(-(A + B) * C, Multiply(Subtract(Number(0), Add(A, B)), C))

    def test_equal_if_made_anew(self):
        for one, other in zip(one_of_each(), one_of_each()):
            self.assertTrue(one == other)
            self.assertFalse(one != other)

    def test_classes_differ(self):
        nodes = one_of_each()
        for at, one in enumerate(nodes):
            for other in nodes[:at] + nodes[at + 1:]:
                self.assertFalse(one == other)
                self.assertTrue(one != other)

    def test_attributes_differ(self):
        for one, other in ((Number(3), Number(-3)), (A, B), (Add(A, B), Add(B, A)), (Subtract(A, B), Subtract(A, A)),
                           (Half(A), Half(B)), (Over(A, B), Over(B, A)), (Power(A, 3), Power(A, 4)),
                           (Power(A, 3), Power(B, 3)), (Raised(A, B), Raised(B, A)),
                           (Choose(A, 4, 1, B, C), Choose(B, 4, 1, B, C)),
                           (Choose(A, 4, 1, B, C), Choose(A, 8, 1, B, C)),
                           (Choose(A, 4, 1, B, C), Choose(A, 4, 2, B, C)),
                           (Choose(A, 4, 1, B, C), Choose(A, 4, 1, C, B)),
                           (Call("f", (A,)), Call("g", (A,))), (Call("f", (A, B)), Call("f", (A,))),
                           (Call("f", (A, B)), Call("f", (B, A)))):
            self.assertFalse(one == other)
            self.assertTrue(one != other)

    def test_nesting_counts(self):
        self.assertFalse((A + B) + C == A + (B + C))
        self.assertFalse(Call("f", (A, Call("f", (B, C)))) == Call("f", (A, Call("f", (B,)), C)))

    def test_equal_to_no_other_value(self):
        for node in one_of_each():
            for other in (3, -3, "a", None, (), [], ("a",), repr(node), object()):
                self.assertFalse(node == other)
                self.assertFalse(other == node)
                self.assertTrue(node != other)


class MethodTest(unittest.TestCase):

    def test_len(self):
        self.assertEqual([len(node) for node in one_of_each()], [1, 1, 3, 3, 3, 2, 3, 2, 3, 4, 3])
        self.assertEqual(len(Half(A + B * C) - A), 8)

    def test_parts_in_order(self):
        self.assertEqual(list(A.parts()), [A])
        self.assertEqual(list(Choose(A, 2, 0, B, C).parts()), [Choose(A, 2, 0, B, C), A, B, C])
        self.assertEqual(list(Call("f", (A, B)).parts()), [Call("f", (A, B)), A, B])
        self.assertEqual(list(Power(A, 2).parts()), [Power(A, 2), A])
        for made in (Add, Subtract, Multiply, Over, Raised):
            self.assertEqual(list(made(A, B).parts()), [made(A, B), A, B])
        node = (A + Half(B)) * Call("f", (C, Number(1) - A))
        self.assertEqual(list(node.parts()), [node, A + Half(B), A, Half(B), B, Call("f", (C, Number(1) - A)), C,
                                              Number(1) - A, Number(1), A])

    def test_parts_may_be_left_and_begun_again(self):
        node = A + B
        left = iter(node.parts())
        self.assertEqual(next(left), node)
        self.assertEqual(list(node.parts()), [node, A, B])
        self.assertEqual(list(left), [A, B])

    def test_named(self):
        self.assertEqual(Number(3).named(), ())
        self.assertEqual((C + B * (A + C) - B).named(), ("a", "b", "c"))
        self.assertEqual(Call("f", (Name("zz"), Name("z"), Name("y"))).named(), ("y", "z", "zz"))
        self.assertEqual(Call("a", (B,)).named(), ("b",))
        self.assertEqual(Call("a", (Number(0),)).named(), ())

    def test_replaced(self):
        for node in one_of_each():
            self.assertEqual(node.replaced("other", C), node)
        self.assertEqual(A.replaced("a", B + C), B + C)
        self.assertEqual((A + A * B).replaced("a", Half(B)), Half(B) + Half(B) * B)
        self.assertEqual((A - B).replaced("b", B - A), A - (B - A))
        self.assertEqual(Call("a", (A, B)).replaced("a", C), Call("a", (C, B)))
        self.assertEqual(Choose(A, 8, 3, B, A).replaced("a", C), Choose(C, 8, 3, B, C))
        self.assertEqual(Power(A, 5).replaced("a", C), Power(C, 5))
        self.assertEqual(Raised(A, B).replaced("b", C), Raised(A, C))
        self.assertEqual((A // B).replaced(name="b", other=C), A // C)
        self.assertEqual(Half(A).replaced("a", A + Number(1)), Half(A + Number(1)))

    def test_replaced_takes_any_string(self):
        for name in ("", "half", "A", "long enough to be none", "3"):
            self.assertEqual((A + B).replaced(name, C), A + B)

    def test_replaced_changes_no_node(self):
        node = A + Call("f", (A, B))
        node.replaced("a", Number(1))
        self.assertEqual(node, A + Call("f", (A, B)))

    def test_deep_nodes(self):
        deep = A
        for _ in range(300):
            deep = Half(deep)
        self.assertEqual(len(deep), 301)
        self.assertEqual(deep, deep.replaced("a", A))
        self.assertEqual(repr(deep), "half " * 300 + "a")


if __name__ == "__main__":
    unittest.main()
