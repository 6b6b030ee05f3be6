"""Machines and their code."""

from lowsure.errors import InvalidCode, InvalidText
from lowsure.words import digits_value, is_between, is_small, signed_value

MOST_ROWS = 1000
MOST_REGISTERS = 8
SLOTS = 1000
MODULI = (1, 2, 4, 8, 16, 32, 64)
# What follows each word: W is the place that is written, R one that is read, both registers; I an integer, S a slot,
# M a modulus, C a rest, N a number of rows.
FORMS = {
    "set": "WI",
    "copy": "WR",
    "add": "WRR",
    "sub": "WRR",
    "mul": "WRR",
    "left": "WR",
    "right": "WR",
    "load": "WS",
    "store": "SR",
    "skip": "RMCN",
}


def registers_of(row):
    """The registers that a row of code reads or writes."""
    return [number for letter, number in zip(FORMS[row[0]], row[1:]) if letter in "WR"]


def read_places(row):
    """The registers and slots that a row of code reads; slots are counted behind all registers."""
    if row[0] == "load":
        return [MOST_REGISTERS + row[2]]
    return [number for letter, number in zip(FORMS[row[0]], row[1:]) if letter == "R"]


def written_place(row):
    """The one that a row of code writes, if it is no skip."""
    return MOST_REGISTERS + row[1] if row[0] == "store" else row[1]


def is_item(letter, value):
    """Whether a value may stand at the place of a letter."""
    if letter == "I":
        return is_small(value)
    if letter in "WR":
        return is_between(value, 0, MOST_REGISTERS - 1)
    if letter == "S":
        return is_between(value, 0, SLOTS - 1)
    if letter == "M":
        return is_between(value, 1, MODULI[-1]) and value in MODULI
    return is_between(value, 0, MOST_ROWS)


def is_row(row):
    """Whether a value is a row of code, wherever its skip may lead."""
    if not isinstance(row, tuple) or len(row) == 0 or not isinstance(row[0], str) or row[0] not in FORMS:
        return False
    form = FORMS[row[0]]
    if len(row) != len(form) + 1 or not all([is_item(letter, value) for letter, value in zip(form, row[1:])]):
        return False
    return row[0] != "skip" or row[3] < row[2]


def read_code_row(text):
    """The row of code with this text, whether its numbers are within their bounds or not, or None."""
    words = text.split(" ")
    form = FORMS.get(words[0], "")
    if form == "" or len(words) != len(form) + 1:
        return None
    items = [signed_value(word) if letter == "I" else digits_value(word) for letter, word in zip(form, words[1:])]
    return None if any([item is None for item in items]) else (words[0], *items)


def shortened(row, at, gone):
    """The row with index `at` when the row with another index is gone: a skip over that one skips one row less."""
    if row[0] == "skip" and at < gone <= at + row[4]:
        return ("skip", row[1], row[2], row[3], row[4] - 1)
    return row


class Machine:
    """Words of some bits, and some registers."""

    def __init__(self, width, registers):
        self.width = width
        self.registers = registers

    def __eq__(self, other):
        return isinstance(other, Machine) and self.width == other.width and self.registers == other.registers


class Code:
    """Rows that machines do one after the other."""

    def __init__(self, rows):
        if len(rows) > MOST_ROWS:
            raise InvalidCode("count", -1)
        self.rows = tuple(rows)
        for at, row in enumerate(self.rows):
            if not is_row(row):
                raise InvalidCode("row", at)
            if row[0] == "skip" and at + 1 + row[4] > len(self.rows):
                raise InvalidCode("skip", at)

    @classmethod
    def read(cls, text):
        """The code with this text."""
        rows = [read_code_row(row) for row in text.split("\n")] if text != "" else []
        for at, row in enumerate(rows):
            if row is None:
                raise InvalidText(at)
        return cls(rows)

    def without(self, at):
        """The code without a row; skips over it skip one row less."""
        return Code([shortened(row, index, at) for index, row in enumerate(self.rows) if index != at])

    def __len__(self):
        return len(self.rows)

    def __eq__(self, other):
        return isinstance(other, Code) and self.rows == other.rows
