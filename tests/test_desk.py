"""Promises 58 and 59: desks."""

import random
import unittest

from lowsure.agreement import agree
from lowsure.codetexts import show_code
from lowsure.desk import Desk
from lowsure.errors import (CannotMake, InvalidCode, InvalidLibrary, InvalidRow, InvalidText, LowError, Mismatch, NotOdd,
                            TooMany, UnknownName)
from lowsure.house import House
from lowsure.library import Library
from lowsure.librarytexts import show_library
from lowsure.lists import count_points
from lowsure.machine import Code, Machine
from lowsure.needed import needed, sure
from lowsure.rows import Function
from tests.made import random_node

FUNCTIONS = ("edit function f x ; give half x", "edit function g x y ; let a = f ( x ) ; give a * y + 1",
             "edit function h x ; give f ( x ) + f ( 2 * x )")


def desk_of(*rows):
    desk = Desk()
    for row in ("machine 16 4", *(rows or FUNCTIONS)):
        desk.say(row)
    return desk


def kept(desk):
    """All that a desk can tell of its house."""
    if len(desk) == 0:
        return 0
    return [(name, desk.say(f"code {name}"), desk.say(f"loss {name}")) for name in desk.house.names]


class Checks(unittest.TestCase):

    def check_error(self, desk, row, error, fields):
        before = kept(desk)
        with self.assertRaises(error) as caught:
            desk.say(row)
        self.assertEqual((type(caught.exception), vars(caught.exception)), (error, fields), row)
        self.assertEqual(kept(desk), before)


class AnswersTest(Checks):

    def test_machine(self):
        desk = Desk()
        self.assertEqual(len(desk), 0)
        for row, machine in (("machine 4 3", Machine(4, 3)), ("machine 64 8", Machine(64, 8)), ("machine 16 4", Machine(16, 4))):
            self.assertEqual((desk.say(row), len(desk), desk.house.machine), ("ready", 0, machine))
        desk.say("edit function f x ; give x")
        self.assertEqual(len(desk), 1)
        self.assertEqual((desk.say(row="machine 8 3"), len(desk), desk.say("undo")), ("ready", 0, "nothing"))
        self.check_error(desk, "loss f", UnknownName, {"name": "f"})
        self.check_error(desk, "edit function f x ; give half x", CannotMake, {"word": "width"})
        self.assertEqual(desk.say("edit function f x ; give 3 * x"), "f")

    def test_edit(self):
        desk = Desk()
        desk.say("machine 16 4")
        for row, answer in (("edit function f x ; give half x", "f"), ("edit function g x ; give f ( x ) * 16", "g"),
                            ("edit function h x ; repeat s , t = x , 1 by t , s times 3 ; let a = f ( s ) ; give a + t",
                             "h"),
                            ("edit function f x ; give half x", "none"), ("edit function f x ; give half x + 256", "none"),
                            ("edit function f x ; give half x + 16", "f h"),
                            ("edit function g x ; give 16 * f ( x )", "none"),
                            ("edit function f x ; give half x + 1", "f g h"), ("edit function k x y z ; give x", "k")):
            self.assertEqual(desk.say(row), answer, row)
        self.assertEqual((len(desk), desk.say("call f 9"), desk.say("value h 8 9")), (4, "5", "10"))

    def test_ask(self):
        desk = desk_of()
        self.assertEqual([desk.say(row) for row in ("ask f 3", "ask f 8", "ask f 15", "ask g 1", "call f -1", "call g 5 1")],
                         ["none", "none", "none", "none", "32767", "1"])
        desk.say("edit function f x ; give half x + 512")
        self.assertEqual(desk.say("ask f 9"), "none")
        desk.say("ask f 8")
        desk.say("edit function f x ; give half x + 256")
        self.assertEqual([desk.say(row) for row in ("ask f 8", "ask f 9")], ["none", "f"])

    def test_values(self):
        desk = desk_of()
        self.assertEqual(desk.say("value f 64 -1"), str(2 ** 64 - 1))
        self.assertEqual(desk.say("value f 1 18446744073709551615"), "1")
        self.assertEqual(desk.say("value g 10 9 -3"), str((4 * -3 + 1) % 1024))
        self.assertEqual(desk.say("value h 64 -18446744073709551615"), str((-2 ** 63 - 2 ** 64 + 1) % 2 ** 64))
        self.assertEqual(desk.say("call g 9 -3"), str((4 * -3 + 1) % 256))
        self.assertEqual(desk.say("call f 0"), "0")

    def test_loss_needed_and_sure(self):
        desk = desk_of(*FUNCTIONS, "edit function k x y ; give ( if x mod 64 is 3 then half y else 5 )",
                       "edit function m x ; give 5")
        self.assertEqual([desk.say(f"loss {name}") for name in "fghkm"], ["1", "1 0", "1", "6 1", "0"])
        self.assertEqual([desk.say(f"needed {name} 3") for name in "fghm"], ["4", "4 3", "4", "0"])
        self.assertEqual(desk.say("needed k 1"), "6 2")
        for row, answer in (("f 10 5", "4"), ("f 3 5", "3"), ("f 64 100", "64"), ("f 5 0", "0"), ("m 64 0", "64"),
                            ("g 10 5 3", "3"), ("g 10 0 0", "0")):
            self.assertEqual(desk.say("sure " + row), answer)

    def test_agree(self):
        desk = desk_of("edit function f x ; give x ** 3 - x", "edit function zero x ; give 0",
                       "edit function g x y ; give x + 8 * y * x", "edit function h x y ; give x")
        self.assertEqual(desk.say("agree f zero 1"), "1 bits")
        self.assertEqual(desk.say("agree f f 64"), "64 bits")
        pieces = {name: desk.house.library.piece(name) for name in ("f", "zero", "g", "h")}
        for one, other, bits in (("f", "zero", 8), ("zero", "f", 3), ("g", "h", 5), ("g", "h", 4), ("g", "h", 3)):
            number, point = agree(pieces[one], pieces[other], bits)
            words = [number, "bits", *(point or ())]
            self.assertEqual(desk.say(f"agree {one} {other} {bits}"), " ".join(map(str, words)))
        self.assertEqual(desk.say("agree g h 4"), "3 bits 1 1")

    def test_code(self):
        desk = desk_of()
        text = desk.say("code f")
        self.assertEqual(text, show_code(desk.house.code("f")).replace("\n", " ; "))
        self.assertEqual(Code.read(text.replace(" ; ", "\n")), desk.house.code("f"))
        self.assertIn(" ; right 0 0 ; ", text)

    def test_undo(self):
        desk = desk_of()
        before = kept(desk)
        desk.say("edit function f x ; give x")
        self.assertEqual(desk.say("undo"), "undone")
        self.assertEqual(kept(desk), before)
        self.assertEqual([desk.say("undo") for _ in range(5)], ["undone", "undone", "undone", "nothing", "nothing"])
        self.assertEqual(len(desk), 0)

    def test_compared_with_a_house(self):
        answers = 0
        for seed in range(40):
            source = random.Random(seed)
            desk, house = Desk(), House(Machine(12, 4))
            desk.say("machine 12 4")
            for _ in range(12):
                name, bits = source.choice("fgh"), source.randint(1, 12)
                x = source.choice([source.randint(-9, 9), source.randint(1 - 2 ** 64, 2 ** 64 - 1)])
                calls = [(other, 1) for other in house.names if other < name]
                made = Function(name, ("x",), (), random_node(source, ("x",), calls, 2, "+-*hhcff/"))
                text = f"function {name} x ; give {made.result!r}"
                kinds = {
                    "edit": (f"edit {text}", lambda: self.names(house, house.edit, made)),
                    "ask": (f"ask {name} {bits}", lambda: self.names(house, house.ask, name, bits)),
                    "value": (f"value {name} {bits} {x}", lambda: str(house.library.piece(name)((x,), bits))),
                    "call": (f"call {name} {x}", lambda: str(house.call(name, (x,)))),
                    "loss": (f"loss {name}", lambda: str(house.library.piece(name).loss[0])),
                    "needed": (f"needed {name} {bits}", lambda: str(needed(house.library.piece(name), bits)[0])),
                    "sure": (f"sure {name} {bits} 7", lambda: str(sure(house.library.piece(name), (7,), bits))),
                    "code": (f"code {name}", lambda: show_code(house.code(name)).replace("\n", " ; ")),
                    "undo": ("undo", lambda: "undone" if house.undo() else "nothing"),
                }
                kind = source.choice([*kinds, "edit", "edit", "edit"])
                if kind not in ("edit", "undo") and name not in house.names:
                    kind = "edit"
                row, call = kinds[kind]
                found = []
                for answer in (lambda: desk.say(row), call):
                    try:
                        found.append(answer())
                    except LowError as error:
                        found.append((type(error), vars(error)))
                self.assertEqual(found[0], found[1], row)
                self.assertEqual(len(desk), len(house))
                answers += isinstance(found[0], str)
        self.assertGreater(answers, 300)

    def names(self, house, change, *arguments):
        before = house.names
        told = [name for name, point, fills in change(*arguments)]
        return " ".join([name for name in house.names if name in told or name not in before]) or "none"

    def test_side_by_side(self):
        one, other = Desk(), Desk()
        one.say("machine 16 4")
        with self.assertRaises(InvalidRow):
            other.say("undo")
        other.say("machine 8 3")
        one.say("edit function f x ; give x")
        other.say("edit function f x ; give 2 * x")
        other.say("edit function g x ; give f ( x )")
        self.assertEqual((len(one), len(other), one.say("call f 3"), other.say("call f 3")), (1, 2, "3", "6"))
        other.say("undo")
        self.assertEqual((len(one), len(other)), (1, 1))


class InvalidRowsTest(Checks):

    def check_invalid(self, row, desks=None):
        for desk in desks or (Desk(), desk_of()):
            self.check_error(desk, row, InvalidRow, {})

    def test_values_that_are_no_strings(self):
        for row in (None, 5, True, b"undo", ["undo"], ("undo",), {}, 1.5, Desk, ["machine", "16", "4"]):
            self.check_invalid(row)

    def test_words(self):
        for row in ("", " ", "undo ", " undo", "undo\n", "\nundo", "un\ndo", "Undo", "UNDO", "undo 1", "undo undo", "help",
                    "undo\t", "machine  16 4", "machine 16 4 ", "machine 16 4\n", " machine 16 4", "machine\n16 4",
                    "edit  function f x ; give x", "edit function f x ; give x ", "edit function f x\ngive x", "edit",
                    "edit ", "edit function f x ;  give x", "edit function f  x ; give x", "loss f ", "loss  f",
                    "value f 8 ", "code f\n", "function f x ; give x"):
            self.check_invalid(row)

    def test_numbers_of_words(self):
        for row in ("machine", "machine 16", "machine 16 4 5", "ask", "ask f", "ask f 8 8", "ask 8", "value", "value f",
                    "call", "loss", "loss f f", "loss f 8", "needed", "needed f", "needed f 8 8", "sure", "sure f", "agree",
                    "agree f", "agree f g", "agree f 8", "agree f g 8 8", "agree f g h 8", "code", "code f g", "undo f"):
            self.check_invalid(row)

    def test_machines(self):
        for row in ("machine 3 4", "machine 65 4", "machine 0 4", "machine 16 2", "machine 16 9", "machine 16 0",
                    "machine -16 4", "machine 16 -4", "machine 016 4", "machine 16 04", "machine +16 4", "machine x 4",
                    "machine 16 x", "machine 16.0 4", "machine 1_6 4", "machine \u0661\u0666 4", "machine 16 4 3",
                    "machine 99999999999999999999999 4"):
            self.check_invalid(row)

    def test_names(self):
        for name in ("F", "f1", "8", "-", "half", "function", "let", "abcdefghi", "f_", "if", "\u00e4", ";", "f,"):
            for row in ("ask {} 8", "value {} 8 1", "call {} 1", "loss {}", "needed {} 8", "sure {} 8 8", "agree {} f 8",
                        "agree f {} 8", "code {}"):
                self.check_invalid(row.format(name))

    def test_numbers_of_bits(self):
        for bits in ("0", "65", "-1", "08", "+8", "8.0", "x", "00", "100", "1_0", "\u0668", "18446744073709551616"):
            for row in ("ask f {}", "value f {} 1", "needed f {}", "sure f {} 8", "agree f f {}"):
                self.check_invalid(row.format(bits))
        desk = desk_of()
        for bits in ("1", "64"):
            for row in ("value f {} 1", "needed f {}", "sure f {} 8", "agree f f {}"):
                desk.say(row.format(bits))
        self.assertEqual(desk.say("ask f 1"), "none")
        self.check_error(desk, "ask f 64", Mismatch, {})

    def test_integers(self):
        for number in ("-0", "00", "01", "-01", "+1", "1.0", "x", "--1", "-", "1e3", "18446744073709551616",
                       "-18446744073709551616", "99999999999999999999", "1" * 21, "1_0", "\u0661", "0x1", "1,"):
            for row in ("value f 8 {}", "call f {}", "value f 8 1 {}", "call g 1 {}"):
                self.check_invalid(row.format(number))
        desk = desk_of()
        for number in ("0", "-1", "18446744073709551615", "-18446744073709551615"):
            self.assertEqual(desk.say(f"value f 64 {number}"), str(int(number) // 2 % 2 ** 64))
            self.assertEqual(desk.say(f"call f {number}"), str(int(number) // 2 % 2 ** 8))

    def test_widths(self):
        for width in ("101", "-1", "00", "01", "+1", "x", "1.0", "100000000000000000000000"):
            self.check_invalid(f"sure f 8 {width}")
            self.check_invalid(f"sure g 8 1 {width}")
        desk = desk_of()
        self.assertEqual([desk.say("sure f 8 0"), desk.say("sure f 8 100")], ["0", "8"])

    def test_no_house(self):
        for row in (*FUNCTIONS, "ask f 8", "value f 8 1", "call f 1", "loss f", "needed f 8", "sure f 8 8", "agree f f 8",
                    "code f", "undo", "edit x"):
            self.check_invalid(row, [Desk()])


class ErrorsTest(Checks):

    def test_unknown_names(self):
        desk = desk_of()
        for row in ("ask k 8", "value k 8 1", "call k 1", "loss k", "needed k 8", "sure k 8 8", "agree k f 8", "agree f k 8",
                    "code k", "agree k m 8", "value k 8", "call k", "sure k 8", "value k 8 1 2 3 4", "call k 1 2 3 4"):
            self.check_error(desk, row, UnknownName, {"name": "k"})
        self.check_error(desk, "agree m k 8", UnknownName, {"name": "m"})
        desk.say("machine 16 4")
        self.check_error(desk, "loss f", UnknownName, {"name": "f"})

    def test_numbers_of_inputs(self):
        desk = desk_of(*FUNCTIONS, "edit function k x y z ; give x")
        for name, inputs in (("f", 1), ("g", 2), ("k", 3)):
            for many in range(6):
                for row in (f"value {name} 2", f"call {name}", f"sure {name} 2"):
                    whole = " ".join([row, *["5"] * many])
                    if many == inputs:
                        self.assertRegex(desk.say(whole), "^[0-9]+$")
                    else:
                        self.check_error(desk, whole, Mismatch, {})

    def test_texts(self):
        desk = desk_of()
        for text, at in (("x", 0), ("function", 0), ("function k", 0), ("give x", 0), ("function k x", 1),
                         ("function k x ; let a = x", 2), ("function k x ; give", 1), ("function k x ; give )", 1),
                         ("function k x ; let a = ( ; give x", 1), ("function k x ; give x ;", 1),
                         ("; function k x ; give x", 0),
                         ("function k x ; give x ; give x", 2), ("function k x ; give x ; let a = x", 2),
                         ("function k x ; give x ; function m x ; give x", 2), ("function k x ; give x ; function m x", 2),
                         ("function k x ; give x ; function m x ; give )", 2), ("function k x ; give x ; x", 2),
                         ("function k x ; give x ; ; give x", 2), ("function k x ; ; give x", 1),
                         ("function k x; give x", 0),
                         ("function k x ;give x", 0), ("function k x ; let a = x ; let b = a ; give b ; give b", 4),
                         ("function k x ; give x + 18446744073709551616", 1), (";", 0), ("; ;", 0), ("; ; ;", 0),
                         ("function f x ; give 3 ; function f x ; give 4", 2), ("function let x ; give x", 0),
                         ("function k x ; repeat a = x by a times 03 ; give x", 1)):
            self.check_error(desk, "edit " + text, InvalidText, {"at": at})
        # From the left, without overlap: what is left of " ; ; " begins with a semicolon.
        self.check_error(desk, "edit function k x ; let a = x ; ; give a", InvalidText, {"at": 2})

    def test_errors_of_libraries_and_houses(self):
        desk = desk_of()
        for row, error, fields in (
                ("edit function k x x ; give x", InvalidLibrary, {"word": "inputs", "function": 3, "row": -1}),
                ("edit function f x ; give g ( x , x )", InvalidLibrary, {"word": "call", "function": 0, "row": 0}),
                ("edit function f x y ; give x", InvalidLibrary, {"word": "call", "function": 1, "row": 0}),
                ("edit function f x ; let a = 1 ; give b", InvalidLibrary, {"word": "unknown", "function": 0, "row": 1}),
                ("edit function f x ; give 1 over x", NotOdd, {"name": "f", "point": (0,)}),
                ("edit function f x ; give 3 to x", CannotMake, {"word": "raised"}),
                ("edit function k x ; repeat s = x by s times 17 ; give s", CannotMake, {"word": "repeat"}),
                ("edit function f x ; give half half half half half half half half x", TooMany, {"count": 2 ** 8 * 10 * 2}),
                ("edit function k x ; give half half half half half half half half x", CannotMake, {"word": "width"}),
                ("edit function f x ; give x ** 64 + x ** 64", CannotMake, {"word": "rows"}),
                ("ask f 17", Mismatch, {}), ("ask f 16", CannotMake, {"word": "width"}),
                ("agree f g 8", Mismatch, {}), ("agree g f 64", Mismatch, {})):
            self.check_error(desk, row, error, fields)
        desk.say("edit function k x y ; give ( if x mod 64 is 0 then half y else x )")
        for row in ("needed k 20", "sure k 20 5 5", "agree k g 20"):
            self.check_error(desk, row, TooMany, {"count": count_points((6, 1), 20)})
        desk.say("edit function m x ; give half half half half half half half x")
        self.check_error(desk, "ask m 5", InvalidCode, {"word": "loss", "row": -1})

    def test_two_at_once(self):
        desk = desk_of()
        for row in ("value k 65 1", "value k 8 x", "sure k 8 101", "agree k m 0", "ask k 0", "call k 01", "loss k f",
                    "value f 0 1 2", "call f 1 -0", "edit  function", "edit function\n"):
            self.check_error(desk, row, InvalidRow, {})
        for row in ("value k 8", "call k 1 2 3 4", "sure k 64"):
            self.check_error(desk, row, UnknownName, {"name": "k"})
        # One item for each input comes before what the function would say.
        desk.say("edit function k x y ; give ( if x mod 64 is 0 then half y else x )")
        self.check_error(desk, "sure k 64 5", Mismatch, {})
        self.check_error(desk, "edit function f x x ; give x ; give", InvalidText, {"at": 2})
        self.check_error(desk, "edit function f x ; give 1 over x ; function", InvalidText, {"at": 2})
        self.check_error(Desk(), "loss k", InvalidRow, {})

    def test_undo_after_errors(self):
        desk = desk_of()
        for row in ("edit function f x ; give 3 to x", "ask f 17", "machine 3 3", "edit x", "ask k 5"):
            with self.assertRaises((LowError, UnknownName)):
                desk.say(row)
        self.assertEqual((desk.say("undo"), len(desk), desk.say("call f 8")), ("undone", 2, "4"))


class TextsTest(unittest.TestCase):

    def test_texts_of_libraries(self):
        """What `show_library` tells may be said, function by function."""
        text = ("function f x\nrepeat s , t = x , 1 by t , s + t times 16\ngive s\nfunction g x y\nlet a = f ( x )\n"
                "give ( if a mod 4 is 3 then half y else a - -3 )")
        library = Library.read(text)
        desk = Desk()
        desk.say("machine 32 3")
        for row in show_library(library).split("\nfunction "):
            whole = row if row.startswith("function ") else "function " + row
            desk.say("edit " + whole.replace("\n", " ; "))
        self.assertEqual(desk.house.library, library)
        self.assertEqual(desk.say("value g 10 7 9"), str(library.piece("g")((7, 9), 10)))


if __name__ == "__main__":
    unittest.main()
