"""Polynomials with integer coefficients in one or two variables, modulo a power of two.

They are given by their values at the vectors of some bits (module `lists`), or by their coefficients, which belong to
the falling products z, z (z - 1), z (z - 1) (z - 2) .. of the variables. Both stand in rows: one row for each exponent
of the first of two variables, and a single row if there is only one variable.
"""

from lowsure.arithmetic import inverse
from lowsure.lists import shares


def differences(values, mask):
    """The first item of a list, of the differences of its items, of the differences of these, and so on."""
    found = []
    rest = list(values)
    while rest:
        found.append(rest[0])
        rest = [(after - before) & mask for before, after in zip(rest, rest[1:])]
    return found


def odd_inverses(count, bits):
    """For each j below `count` the inverse of the odd part of j!."""
    found = []
    product = 1
    for j in range(count):
        if j > 0:
            product = product * (j // (j & -j))
        found.append(inverse(product, bits))
    return found


def falling(coefficients, z, mask):
    """The value of a polynomial in one variable."""
    total = 0
    for at in reversed(range(len(coefficients))):
        total = (coefficients[at] + total * (z - at)) & mask
    return total


def evaluated(rows, place, mask):
    """The value of the polynomial with these rows of coefficients; `place` are its variables."""
    if len(rows) == 1:
        return falling(rows[0], place[-1], mask)
    return falling([falling(row, place[1], mask) for row in rows], place[0], mask)


class Shape:
    """The form of the rows of polynomials in some variables, to some bits."""

    def __init__(self, inputs, bits):
        self.bits = bits
        self.mask = (1 << bits) - 1
        self.twos = shares(bits)
        self.widths = [len(self.twos)]
        if inputs == 2:
            self.widths = [len([share for share in self.twos if used + share < bits]) for used in self.twos]
        self.inverses = odd_inverses(len(self.twos), bits)

    def in_rows(self, values):
        """The values at the vectors, in rows."""
        found = []
        begin = 0
        for width in self.widths:
            found.append(values[begin:begin + width])
            begin = begin + width
        return found

    def spread(self, values):
        """Rows of the differences c(J) of the values at the vectors."""
        rows = [differences(row, self.mask) for row in self.in_rows(values)]
        columns = [[row[at] for row in rows if len(row) > at] for at in range(len(rows[0]))]
        columns = [differences(column, self.mask) for column in columns]
        return [[columns[at][down] for at in range(len(row))] for down, row in enumerate(rows)]

    def first_wrong(self, found):
        """The index of the first difference that belongs to no polynomial, or None."""
        index = 0
        for down, row in enumerate(found):
            for at, number in enumerate(row):
                if number & ((1 << (self.twos[down] + self.twos[at])) - 1) != 0:
                    return index
                index = index + 1
        return None

    def coefficients(self, found):
        """Rows of the coefficients of the polynomial with these differences."""
        return [self.divided(row, down) for down, row in enumerate(found)]

    def divided(self, row, down):
        """The differences of a row, divided by the factorials of their vectors, without zeros at the end."""
        factor = self.inverses[down]
        used = self.twos[down]
        found = [(number >> (used + self.twos[at])) * factor * self.inverses[at] & self.mask
                 for at, number in enumerate(row)]
        while found and found[-1] == 0:
            found.pop()
        return found


def state_rows(shape, values):
    """For each of some states the rows of coefficients, from a list of the states at each vector."""
    return [shape.coefficients(shape.spread([value[at] for value in values])) for at in range(len(values[0]))]
