"""Functions that have the values of tables, and tables of what is asked."""

from lowsure.lists import point_list
from lowsure.nodes import Choose, Half, Name, Number
from lowsure.rows import Function, Let
from lowsure.tables import Table

VALUE = "x"
VARIABLE = "z"
# The names of the polynomials on the classes.
LETTERS = "abcdefghijklmnop"


def function_of(table, name):
    """A function with this name that has the values of a table with one input."""
    small = Table.of(table, table.bits, (table.least_loss(),))
    depth = small.loss[0]
    mask = (1 << table.bits) - 1
    sides = [power_coefficients(coefficients[0], mask) for coefficients in small.classes]
    if depth == 0:
        return Function(name, (VALUE,), (), polynomial(sides[0], VALUE))
    variable = Name(VALUE)
    for _ in range(depth):
        variable = Half(variable)
    rows = [Let(VARIABLE, variable)]
    for letter, side in zip(LETTERS, sides):
        rows.append(Let(letter, polynomial(side, VARIABLE)))
    return Function(name, (VALUE,), rows, chosen(depth))


def power_coefficients(coefficients, mask):
    """The coefficients of the powers of z, from those of its falling products."""
    found = []
    for at in reversed(range(len(coefficients))):
        # What is found so far, times z - at.
        found = [(one - at * other) & mask for one, other in zip([0, *found], [*found, 0])]
        found[0] = (found[0] + coefficients[at]) & mask
    return found


def polynomial(coefficients, name):
    """The node of a polynomial in what a name is bound to, from the coefficients of the powers."""
    # With one product for each power, code for it has the fewest rows.
    node = Number(coefficients[-1] if coefficients else 0)
    for coefficient in coefficients[-2::-1]:
        node = Name(name) if node == Number(1) else Name(name) * node
        if coefficient != 0:
            node = Number(coefficient) + node
    return node


def chosen(depth):
    """The node that chooses between the polynomials on all classes."""
    last = (1 << depth) - 1
    node = Name(LETTERS[last])
    for residue in reversed(range(last)):
        node = Choose(Name(VALUE), 1 << depth, residue, Name(LETTERS[residue]), node)
    return node


def learned(ask, loss, bits):
    """The table of the values that a function gives at the points of the list."""
    return Table(loss, bits, [ask(point) for point in point_list(loss, bits)])
