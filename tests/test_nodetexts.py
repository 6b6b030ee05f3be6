"""Promises 12 and 13 (and 3 for texts of nodes): texts are shown and read."""

import itertools
import random
import re
import unittest

from lowsure.errors import InvalidText
from lowsure.nodes import Add, Call, Choose, Half, Multiply, Name, Number, Over, Power, Raised, Subtract
from lowsure.nodetexts import read_node, show_node
from tests.made import random_node

A, B, C = Name("a"), Name("b"), Name("c")
WORDS = "function let repeat by times give half over to if mod is then else".split()

SHOWN = [
    (Number(0), "0"), (Number(-5), "-5"), (Number(2 ** 64 - 1), "18446744073709551615"),
    (Number(1 - 2 ** 64), "-18446744073709551615"), (A, "a"),
    (A + B, "a + b"), (A - B, "a - b"), (A * B, "a * b"), (A // B, "a over b"), (-A, "0 - a"),
    (Half(A), "half a"), (Power(A, 0), "a ** 0"), (Power(A, 64), "a ** 64"), (Raised(A, B), "a to b"),
    (Choose(A, 4, 3, B, C), "( if a mod 4 is 3 then b else c )"),
    (Call("f", (A,)), "f ( a )"), (Call("f", (A + B, C, Number(1))), "f ( a + b , c , 1 )"),
    # Sums and products are read from the left.
    (A + B + C, "a + b + c"), (A + (B + C), "a + ( b + c )"), (A - (B + C), "a - ( b + c )"), (A - B + C, "a - b + c"),
    (A + (B - C), "a + ( b - c )"), (A * B * C, "a * b * c"), (A * (B * C), "a * ( b * c )"),
    (A // B * C, "a over b * c"), (A // (B * C), "a over ( b * c )"), (A * (B // C), "a * ( b over c )"),
    (A * B + C, "a * b + c"), (A + B * C, "a + b * c"), ((A + B) * C, "( a + b ) * c"), (A * (B + C), "a * ( b + c )"),
    (A * (B - C), "a * ( b - c )"), ((A - B) // C, "( a - b ) over c"), (A // (B + C), "a over ( b + c )"),
    # `half` binds more tightly than they do, `**` and `to` more tightly still.
    (Half(A) + B, "half a + b"), (Half(A + B), "half ( a + b )"), (Half(A) * B, "half a * b"),
    (Half(A * B), "half ( a * b )"), (A * Half(B), "a * half b"), (A // Half(B), "a over half b"),
    (Half(Half(A)), "half half a"), (Half(Power(A, 2)), "half a ** 2"), (Power(Half(A), 2), "( half a ) ** 2"),
    (Half(Raised(A, B)), "half a to b"), (Raised(Half(A), B), "( half a ) to b"), (Raised(A, Half(B)), "a to half b"),
    (Raised(A, Raised(B, C)), "a to b to c"), (Raised(Raised(A, B), C), "( a to b ) to c"),
    (Raised(A, Power(B, 2)), "a to b ** 2"), (Power(Raised(A, B), 2), "( a to b ) ** 2"),
    (Raised(Power(A, 2), B), "( a ** 2 ) to b"), (Power(Power(A, 2), 3), "( a ** 2 ) ** 3"),
    (Raised(A, B + C), "a to ( b + c )"), (Raised(A, B) * C, "a to b * c"), (A * Raised(B, C), "a * b to c"),
    (Raised(A, Half(Raised(B, Half(C)))), "a to half b to half c"), (Power(A + B, 2), "( a + b ) ** 2"),
    (Power(Number(-2), 3), "-2 ** 3"), (A - Number(-2), "a - -2"), (Raised(Number(3), Number(-1)), "3 to -1"),
    (Power(Call("f", (A,)), 2), "f ( a ) ** 2"),
    (Power(Choose(A, 2, 0, B, C), 2), "( if a mod 2 is 0 then b else c ) ** 2"),
    (Half(Choose(A + B, 2, 1, B - C, Half(C))), "half ( if a + b mod 2 is 1 then b - c else half c )"),
    (Call("f", (Call("a", (B + C,)),)), "f ( a ( b + c ) )"),
]

# Texts with the index of the first word that cannot stand there.
WRONG = [
    ("", 0), (" ", 0), (" a", 0), ("a ", 1), ("a  + b", 1), ("a +  b", 2), ("a + ", 2), ("a +", 2), ("+ a", 0), ("a b", 1),
    ("a 1", 1), ("a -1", 1), ("a + -1 -1", 3), ("- 1", 0), ("--1", 0), ("-", 0), ("-a", 0), ("+1", 0), ("-0", 0), ("00", 0),
    ("01", 0), ("-01", 0), ("1_0", 0), ("0x1", 0), ("1.0", 0), ("\u0661", 0), ("18446744073709551616", 0),
    ("-18446744073709551616", 0), ("9" * 3000, 0), ("a - " + "9" * 3000, 2), ("abcdefghi", 0), ("A", 0), ("a1", 0),
    ("\u00e9", 0), ("half", 1), ("half half", 2), ("half + a", 1), ("a half b", 1), ("a over", 2), ("over a", 0),
    ("a * * b", 2), ("a ** b", 2), ("a ** 65", 2), ("a ** -1", 2), ("a ** 02", 2), ("a **", 2), ("a ** 2 ** 3", 3),
    ("a ** 2 to b", 3), ("half a ** 2 ** 3", 4), ("a to b ** 2 to c", 5), ("a to", 2), ("to a", 0), ("a to to b", 2),
    ("( a", 2), ("( a ) )", 3), (") a", 0), ("( )", 1), ("a ( )", 2), ("a ( b", 3), ("a ( b ,", 4), ("a ( b , )", 4),
    ("a ( , b )", 2), ("a , b", 1), ("( a , b )", 2), ("1 ( a )", 1), ("( a ) ( b )", 3), ("half ( a ) ( b )", 4),
    ("a ( b ) ( c )", 4), ("a ( b ) c", 4), ("if a mod 2 is 0 then b else c", 0), ("( half if a mod 2", 2),
    ("a ( if b mod 2 is 0 then b else c )", 2), ("( if", 2), ("( if a", 3), ("( if a )", 3), ("( if a mod 3 is 0", 4),
    ("( if a mod 1 is 0", 4), ("( if a mod 128", 4), ("( if a mod -2", 4), ("( if a mod 02", 4), ("( if a mod b", 4),
    ("( if a mod 4 then", 5), ("( if a mod 4 is 4 then", 6), ("( if a mod 4 is -1 then", 6), ("( if a mod 4 is b", 6),
    ("( if a mod 4 is 3 b", 7), ("( if a mod 4 is 3 then else", 8), ("( if a mod 4 is 3 then b )", 9),
    ("( if a mod 4 is 3 then b else c", 11), ("( if a mod 4 is 3 then b else c d", 11),
    ("( if a mod 4 is 3 then b else c else", 11), ("( a mod 4", 2), ("( if a mod 4 is 3 then b mod 2", 9),
    ("a\nb", 0), ("a\t+ b", 0),
    *[(word, 0) for word in WORDS if word != "half"], *[("a + " + word, 2) for word in WORDS if word != "half"],
    *[(word + " ( a )", 0) for word in WORDS if word != "half"],
]


def is_name(word):
    return re.fullmatch("[a-z]{1,8}", word) is not None and word not in WORDS


def is_number(word):
    return re.fullmatch("0|-?[1-9][0-9]*", word) is not None and abs(int(word)) < 2 ** 64


def first_wrong(words):
    """What read_node promises, told another way: word by word, with the places that are still open."""
    open_places, state, fresh = [], "begin", False
    for at, word in enumerate(words):
        place = open_places[-1] if open_places else ""
        may_if, fresh = fresh, False
        if state == "begin":
            if word == "(" and len(open_places) < 20:
                open_places.append("paren")
                fresh = True
            elif word == "if" and may_if:
                open_places[-1] = "tested"
            elif is_number(word) or is_name(word):
                state = "name" if is_name(word) else "plain"
            elif word != "half":
                return at
        elif state in ("name", "plain", "powered"):
            if word in ("+", "-", "*", "over") or (word == "to" and state != "powered"):
                state = "begin"
            elif word == "**" and state != "powered":
                state = "times"
            elif word == "(" and state == "name" and len(open_places) < 20:
                open_places.append("call")
                state = "begin"
            elif word == ")" and place in ("paren", "call", "no"):
                open_places.pop()
                state = "plain"
            elif word == "," and place == "call":
                state = "begin"
            elif word == "mod" and place == "tested":
                state = "modulus"
            elif word == "else" and place == "yes":
                open_places[-1] = "no"
                state = "begin"
            else:
                return at
        elif state == "times" and word in [str(n) for n in range(65)]:
            state = "powered"
        elif state == "modulus" and word in ("2", "4", "8", "16", "32", "64"):
            modulus, state = int(word), "is"
        elif state == "is" and word == "is":
            state = "rest"
        elif state == "rest" and word in [str(n) for n in range(modulus)]:
            state = "then"
        elif state == "then" and word == "then":
            open_places[-1] = "yes"
            state = "begin"
        else:
            return at
    return None if state in ("name", "plain", "powered") and not open_places else len(words)


def read_wrong(text):
    try:
        read_node(text)
    except InvalidText as error:
        return error.at
    return None


class ShowTest(unittest.TestCase):

    def test_texts(self):
        for node, text in SHOWN:
            self.assertEqual(show_node(node), text)
            self.assertEqual(repr(node), text)
            self.assertEqual(show_node(node=node), text)

    def test_shown_texts_are_read(self):
        for node, text in SHOWN:
            self.assertEqual(read_node(text), node, text)
            self.assertEqual(read_node(text=text), node)

    def test_no_parentheses_without_need(self):
        source = random.Random(12)
        for _ in range(1000):
            node = random_node(source, ["a", "b"], [("f", 1), ("g", 2)], source.choice([2, 3, 4]))
            words = show_node(node).split(" ")
            self.assertEqual(read_node(" ".join(words)), node)
            for at, word in enumerate(words):
                if word != "(" or words[at + 1] == "if" or (at > 0 and is_name(words[at - 1])):
                    continue
                end, depth = at, 1
                while depth > 0:
                    end += 1
                    depth += {"(": 1, ")": -1}.get(words[end], 0)
                bare = " ".join([*words[:at], *words[at + 1:end], *words[end + 1:]])
                self.assertTrue(read_wrong(bare) is not None or read_node(bare) != node, bare)


class ReadTest(unittest.TestCase):

    def test_example(self):
        self.assertEqual(show_node(read_node("( a * ( b + c ) ) + half ( half d )")), "a * ( b + c ) + half half d")
        self.assertEqual(read_wrong("a + "), 2)

    def test_parentheses_around_any_part(self):
        for text, node in (("( a )", A), ("( ( ( 3 ) ) )", Number(3)), ("( a + b ) + ( c )", A + B + C),
                           ("( ( a ) to ( b ) )", Raised(A, B)), ("half ( ( a ** 2 ) )", Half(Power(A, 2))),
                           ("a to ( b to c )", Raised(A, Raised(B, C))), ("( ( a ) ** 2 ) ** 3", Power(Power(A, 2), 3)),
                           ("( ( if ( a ) mod 2 is 1 then ( b ) else ( c ) ) )", Choose(A, 2, 1, B, C)),
                           ("( f ( ( a ) , ( ( b ) ) ) )", Call("f", (A, B))), ("a * ( half b )", A * Half(B))):
            self.assertEqual(read_node(text), node, text)

    def test_wrong_texts(self):
        for text, at in WRONG:
            self.assertEqual(read_wrong(text), at, text)

    def test_twenty_parentheses(self):
        for opening, closing in (("( ", " )"), ("f ( ", " )"), ("( if a mod 2 is 0 then b else ", " )"),
                                 ("( if a mod 2 is 0 then ", " else b )"), ("half ( ", " )"), ("( 1 + ", " )")):
            text = opening * 20 + "a" + closing * 20
            self.assertIsNone(read_wrong(text), text)
            words = (opening * 21 + "a" + closing * 21).split(" ")
            self.assertEqual(read_wrong(" ".join(words)), [at for at, word in enumerate(words) if word == "("][20])
        many = "( a ) + " * 30 + "( a )"
        self.assertIsNone(read_wrong(many))

    def test_long_texts(self):
        self.assertEqual(len(read_node("half " * 199 + "a")), 200)
        self.assertEqual(len(read_node("a to " * 99 + "a")), 199)
        self.assertEqual(len(read_node("a + " * 99 + "a")), 199)
        for text in ("half " * 199 + "a", "a to " * 99 + "a", "a + " * 99 + "a", "a over " * 99 + "a"):
            self.assertEqual(show_node(read_node(text)), text)

    def test_all_short_texts(self):
        words = ["a", "3", "+", "half", "over", "to", "**", "(", ")", ",", "if", "mod", "2", ""]
        for length in (1, 2, 3, 4):
            for chosen in itertools.product(words, repeat=length):
                self.assertEqual(read_wrong(" ".join(chosen)), first_wrong(list(chosen)), chosen)

    def test_changed_texts(self):
        source = random.Random(13)
        words = ["a", "half", "to", "**", "*", "over", "+", "-", "(", ")", ",", "if", "mod", "2", "3", "64", "65", "is",
                 "0", "then", "else", "-1", "-0", "01", "18446744073709551616", "let", "A", ""]
        for _ in range(4000):
            node = random_node(source, ["a", "b"], [("f", 1), ("g", 2)], source.choice([1, 2, 3]))
            text = show_node(node).split(" ")
            for _ in range(source.choice([1, 1, 2])):
                at = source.randrange(len(text))
                text[at:at + source.choice([0, 1])] = source.choice([[], [source.choice(words)]])
                text = text or [""]
            self.assertEqual(read_wrong(" ".join(text)), first_wrong(text), text)


if __name__ == "__main__":
    unittest.main()
