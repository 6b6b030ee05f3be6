"""The shortest code that can be made of some rows.

Codes are gone through one by one, but most of them are wrong at one of a few pairs of points and fills that showed
already that others are wrong. Only code that is right at all these pairs is looked at by `wrong_at`: either it is
right, or there is one pair more.
"""

from lowsure.columns import first_columns
from lowsure.errors import InvalidCode, LowError, TooMany
from lowsure.lists import count_points, greater_loss
from lowsure.machine import Code, is_row, registers_of, written_place
from lowsure.rightness import check_bits, wrong_at

MOST_POINTS = 200


def shortest(machine, doer, bits, rows, most):
    """Some right code made of these rows, with the least number of rows, or None."""
    check_question(machine, doer, bits, rows, most)
    search = Search(machine, doer, bits, rows)
    for length in range(most + 1):
        code = search.right_code(length)
        if code is not None:
            return code
    return None


def refuting(machine, doer, bits, rows, length):
    """Pairs of points and fills at which all code with fewer of these rows is wrong, or None if some is right."""
    check_question(machine, doer, bits, rows, max(0, length - 1))
    search = Search(machine, doer, bits, rows)
    for shorter in range(length):
        if search.right_code(shorter) is not None:
            return None
    return tuple(search.pairs)


def check_question(machine, doer, bits, rows, most):
    """Raises Mismatch, InvalidCode or TooMany if code of so many rows cannot be looked for."""
    check_bits(machine, doer, bits)
    for at, row in enumerate(rows):
        word = row_fault(machine, row)
        if word != "":
            raise InvalidCode(word, at)
    # Code without skips looks at each input at most as deep as it has rows.
    count = count_points(greater_loss(doer.loss, [most for _ in doer.loss]), bits)
    if count > MOST_POINTS:
        raise TooMany(count)


def row_fault(machine, row):
    """The word for why no code is made of a row, or the empty string."""
    if not is_row(row):
        return "row"
    if any([number >= machine.registers for number in registers_of(row)]):
        return "register"
    return "skip" if row[0] == "skip" else ""


def sequences(rows, length):
    """A list of all tuples of so many of the rows."""
    found = [()]
    for _ in range(length):
        found = [(*before, row) for before in found for row in rows]
    return found


class Search:
    """Goes through code made of some rows; `pairs` are the points and fills that showed so far that code is wrong."""

    def __init__(self, machine, doer, bits, rows):
        self.machine = machine
        self.doer = doer
        self.bits = bits
        self.rows = rows
        # Other last rows leave the result as it is without them, and how deep it is.
        self.last_rows = [row for row in rows if written_place(row) == 0]
        self.pairs = []
        self.wanted = []

    def right_code(self, length):
        """Some right code with so many rows, or None; it is known that none with fewer rows is right."""
        if length == 0:
            code = Code(())
            return code if self.is_right(code) else None
        for first in sequences(self.rows, length - 1):
            code = self.right_end(first)
            if code is not None:
                return code
        return None

    def right_end(self, first):
        """Some right code that begins with all but its last row, or None."""
        columns = self.behind_rows(first)
        for row in self.last_rows:
            if self.fits(columns.computed(row)):
                code = Code((*first, row))
                if self.is_right(code):
                    return code
                columns = self.behind_rows(first)
        return None

    def behind_rows(self, rows):
        """What registers and slots have behind some rows, at all pairs so far."""
        columns = first_columns(self.machine, self.doer.inputs, self.pairs)
        for row in rows:
            columns = columns.behind(row)
        return columns

    def fits(self, numbers):
        """Whether the low bits of some numbers are those that the doer has at the pairs."""
        mask = (1 << self.bits) - 1
        return [number & mask for number in numbers] == self.wanted

    def is_right(self, code):
        """Whether code is right; if it is wrong, one more pair shows this. Code that is too deep is left out."""
        try:
            pair = wrong_at(self.machine, code, self.doer, self.bits)
        except LowError:
            return False
        if pair is None:
            return True
        doer = self.doer
        self.pairs.append(pair)
        self.wanted.append(doer(pair[0], self.bits))
        return False
