"""Functions to some bits that are given by their values at the list."""

from lowsure.errors import Mismatch, NoTable
from lowsure.lists import check_short, count_points, count_vectors, greater_loss, point_list, points, twos, vectors
from lowsure.polynomials import Shape, evaluated


def twos_of(vector):
    """How many low bits of the value at a vector follow from the values before it."""
    return sum([twos(number) for number in vector])


def known_bits(loss, bits):
    """For each point of the list, how many low bits of the value there follow from the values before it."""
    known = [min(bits, twos_of(vector)) for vector in vectors(len(loss), bits)]
    return tuple(known * (1 << sum(loss)))


def count_tables(loss, bits):
    """The number e for which there are 2 ** e tables with this loss and these bits."""
    free = [bits - twos_of(vector) for vector in vectors(len(loss), bits)]
    return sum(free) << sum(loss)


def classes_of(loss, bits, entries):
    """For each class of a loss the coefficients of the polynomial on it; raises NoTable."""
    shape = Shape(len(loss), bits)
    size = count_vectors(len(loss), bits)
    found = []
    for number in range(1 << sum(loss)):
        begin = number * size
        spread = shape.spread(entries[begin:begin + size])
        wrong = shape.first_wrong(spread)
        if wrong is not None:
            raise NoTable(begin + wrong)
        found.append(shape.coefficients(spread))
    return found


class Table:
    """A function to some bits, given by its values at the list of a loss."""

    def __init__(self, loss, bits, entries):
        if len(entries) != count_points(loss, bits):
            raise Mismatch()
        self.loss = tuple(loss)
        self.bits = bits
        self.entries = tuple([entry & ((1 << bits) - 1) for entry in entries])
        self.inputs = len(self.loss)
        self.most = bits
        self.classes = classes_of(self.loss, bits, self.entries)

    @classmethod
    def of(cls, doer, bits, loss=None):
        """The table of a piece or a table, with its own loss or another one."""
        if bits > doer.most or (loss is not None and len(loss) != doer.inputs):
            raise Mismatch()
        own = tuple(doer.loss)
        used = own if loss is None else tuple(loss)
        whole = greater_loss(own, used)
        check_short(whole, bits)
        table = cls(used, bits, [doer(point, bits) for point in points(used, bits)])
        # With a loss as great as the doer's own, the values at the list decide already.
        if whole != used and any([table(point) != doer(point, bits) for point in points(whole, bits)]):
            raise Mismatch()
        return table

    @classmethod
    def constant(cls, value, inputs, bits):
        """The table with the same value everywhere."""
        return cls((0,) * inputs, bits, [value] * count_vectors(inputs, bits))

    def half(self):
        """The table of the half."""
        if self.bits == 1:
            raise Mismatch()
        bits = self.bits - 1
        loss = tuple([number + 1 for number in self.loss])
        check_short(loss, bits)
        return Table(loss, bits, [self.worth(point) >> 1 for point in points(loss, bits)])

    def least_loss(self):
        """The least loss that the function has, for one input."""
        most = self.loss[0]
        for number in range(most):
            if self.has_loss(number):
                return number
        return most

    def has_loss(self, number):
        """Whether the function of one input has a table with this loss."""
        try:
            Table.of(self, self.bits, (number,))
        except (NoTable, Mismatch):
            return False
        return True

    def worth(self, point):
        """The value at a point, to all bits of the table."""
        mask = (1 << self.bits) - 1
        number = 0
        place = []
        for depth, x in zip(self.loss, point):
            number = (number << depth) + (x & ((1 << depth) - 1))
            place.append((x >> depth) & mask)
        return evaluated(self.classes[number], place, mask)

    def listed(self, loss):
        """The values at the list of a loss that is as great as the own one, or greater."""
        if loss == self.loss:
            return self.entries
        return [self.worth(point) for point in point_list(loss, self.bits)]

    def common_loss(self, other):
        """The greater loss of two tables that can be added or multiplied."""
        if self.inputs != other.inputs or self.bits != other.bits:
            raise Mismatch()
        loss = greater_loss(self.loss, other.loss)
        check_short(loss, self.bits)
        return loss

    def is_same(self, other):
        """Whether the functions are the same."""
        if self.inputs != other.inputs or self.bits != other.bits:
            return False
        loss = greater_loss(self.loss, other.loss)
        return list(self.listed(loss)) == list(other.listed(loss))

    def __call__(self, point, bits=None):
        return self.worth(point) & ((1 << (self.bits if bits is None else bits)) - 1)

    def __add__(self, other):
        loss = self.common_loss(other)
        return Table(loss, self.bits, [one + two for one, two in zip(self.listed(loss), other.listed(loss))])

    def __sub__(self, other):
        loss = self.common_loss(other)
        return Table(loss, self.bits, [one - two for one, two in zip(self.listed(loss), other.listed(loss))])

    def __mul__(self, other):
        loss = self.common_loss(other)
        return Table(loss, self.bits, [one * two for one, two in zip(self.listed(loss), other.listed(loss))])

    def __neg__(self):
        check_short(self.loss, self.bits)
        return Table(self.loss, self.bits, [-entry for entry in self.entries])

    def __eq__(self, other):
        return isinstance(other, Table) and self.is_same(other)
