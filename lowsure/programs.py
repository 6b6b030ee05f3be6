"""The functions of a library, made ready to be computed."""

from lowsure.compiling import Even, Scope, ready
from lowsure.lists import points
from lowsure.nodes import Over, Raised
from lowsure.repeating import Rounds
from lowsure.rows import Let, bound_names, row_nodes

STEP_BITS = 8


class Program:
    """A function that is ready to be computed to some bits: rows that give the values of their names, and a result."""

    def __init__(self, rows, result):
        self.rows = rows
        self.result = result

    def computed(self, point):
        """The low bits of the function's value. Raises Even."""
        known = list(point)
        for row in self.rows:
            known.extend(row(known))
        result = self.result
        return result(known)

    def fails(self, point):
        """Whether the function divides by an even value, or raises one."""
        try:
            self.computed(point)
        except Even:
            return True
        return False


class Programs:
    """Makes the programs of some functions with known losses, and keeps them for the next time."""

    def __init__(self, functions, losses):
        self.functions = {function.name: function for function in functions}
        self.losses = losses
        self.kept = {}
        self.kept_steps = {}

    def program(self, name, bits):
        """The program of a function, for some bits of its result."""
        key = (name, bits)
        if key not in self.kept:
            self.kept[key] = self.made(self.functions[name], bits, 0)
        return self.kept[key]

    def made(self, function, bits, least):
        """A program that computes at least so many bits of each row; rows of which no bit is asked are left out."""
        names = list(function.inputs)
        for row in function.rows:
            names.extend(bound_names(row))
        scope = Scope(names, self)
        result = ready(function.result, bits, scope)
        rows = []
        # From the last row to the first, since only the rows behind it tell how many bits of a row are asked for.
        for at in reversed(range(len(function.rows))):
            wanted = max(least, scope.most_wanted(bound_names(function.rows[at])))
            rows.append(self.row_ready(function, at, wanted, scope))
        return Program(rows[::-1], result)

    def row_ready(self, function, at, bits, scope):
        """The function that gives a list of the values of the names that a row binds."""
        row = function.rows[at]
        if bits == 0:
            nothing = [0] * len(bound_names(row))
            return lambda known: nothing
        values = [ready(node, bits, scope) for node in row_nodes(row)]
        if isinstance(row, Let):
            return lambda known: [value(known) for value in values]
        repeated = self.repeat_ready(function, at, bits)
        return lambda known: repeated.after([value(known) for value in values])

    def repeat_ready(self, function, at, bits):
        """The rounds of a `Repeat` for some bits of its states, or for more bits."""
        row = function.rows[at]
        # For one state, the rounds for some numbers of bits serve for those a little lower, too: they keep what they
        # found.
        enough = bits if len(row.names) == 2 or bits < STEP_BITS else -(-bits // STEP_BITS) * STEP_BITS
        key = (function.name, at, enough)
        if key not in self.kept_steps:
            self.kept_steps[key] = Rounds(self.row_steps(row, enough), row.times, enough)
        return self.kept_steps[key]

    def row_steps(self, row, bits):
        """The steps of a `Repeat`, ready to be computed from its states."""
        scope = Scope(row.names, self)
        return [ready(step, bits, scope) for step in row.steps]


def has_odd(function):
    """Whether anything in a function has to be odd, but for what it calls."""
    nodes = [function.result]
    for row in function.rows:
        nodes.extend(row_nodes(row))
    for node in nodes:
        if any([isinstance(part, (Over, Raised)) for part in node.parts()]):
            return True
    return False


def first_even(function, programs):
    """The first point of the list for 1 bit at which the function divides by an even value or raises one, or None."""
    if not has_odd(function):
        return None
    program = programs.made(function, 1, 1)
    loss = programs.losses[function.name]
    for point in points(loss, 1):
        if program.fails(point):
            return point
    return None
