"""Code for pieces."""

from lowsure.errors import CannotMake
from lowsure.folding import folded
from lowsure.machine import Code
from lowsure.measures import cost, depth_of, need_bits
from lowsure.nodes import Call, Choose, Half, Name, Number, Over, Power, Raised
from lowsure.rows import Let, Repeat, row_nodes

MOST_TIMES = 16
MOST_COST = 1000
WORDS = {"Add": "add", "Subtract": "sub", "Multiply": "mul"}


def function_nodes(function):
    """All nodes of a function but its steps, with their parts: in steps there is nothing to look for."""
    nodes = [function.result]
    for row in function.rows:
        nodes.extend(row_nodes(row))
    return [part for node in nodes for part in node.parts()]


def all_functions(piece):
    """The function of a piece, and those that it calls, also through others."""
    called = {piece.name: True}
    found = []
    # A function calls only earlier ones.
    for function in reversed(piece.library.functions):
        if function.name in called:
            found.append(function)
            for part in function_nodes(function):
                if isinstance(part, Call):
                    called[part.name] = True
    return found


def check_makeable(machine, piece, bits):
    """Raises CannotMake for the first reason that there is."""
    functions = all_functions(piece)
    if any([isinstance(part, Raised) for function in functions for part in function_nodes(function)]):
        raise CannotMake("raised")
    repeats = [row for function in functions for row in function.rows if isinstance(row, Repeat)]
    if any([row.times > MOST_TIMES for row in repeats]):
        raise CannotMake("repeat")
    if need_bits(piece, bits) > machine.width or 2 * depth_of(piece) + 2 > machine.width:
        raise CannotMake("width")
    if cost(piece) > MOST_COST:
        raise CannotMake("rows")


def make(machine, piece, bits):
    """Code that is right for a piece."""
    check_makeable(machine, piece, bits)
    maker = Maker(piece.library, machine.width)
    return maker.whole_code(piece.name)


class Maker:
    """Makes rows of code. Each value has a place of its own that is written once: the rest of the row that loads it."""

    def __init__(self, library, width):
        self.functions = {function.name: function for function in library.functions}
        self.width = width
        self.rows = []
        self.slots = 0

    def whole_code(self, name):
        """The code of a function."""
        function = self.functions[name]
        places = [self.stored(at) for at in range(len(function.inputs))]
        self.fetch(self.function_place(function, places), 0)
        return Code(self.rows)

    def fetch(self, place, number):
        """Brings a value into a register."""
        self.rows.append((place[0], number, place[1]))

    def stored(self, number):
        """Keeps what is in a register; its place."""
        slot = self.slots
        self.slots += 1
        self.rows.append(("store", slot, number))
        return ("load", slot)

    def function_place(self, function, places):
        """The place of the value of a function at some values."""
        bound = {name: place for name, place in zip(function.inputs, places)}
        for row in function.rows:
            if isinstance(row, Let):
                bound[row.name] = self.node_place(row.node, bound)
            else:
                self.bind_states(row, bound)
        return self.node_place(function.result, bound)

    def bind_states(self, row, bound):
        """Binds the names of a `Repeat`."""
        states = [self.node_place(start, bound) for start in row.starts]
        for _ in range(row.times):
            now = {name: state for name, state in zip(row.names, states)}
            states = [self.node_place(step, now) for step in row.steps]
        for name, state in zip(row.names, states):
            bound[name] = state

    def node_place(self, node, bound):
        """The place of the value of a node; `bound` are those of names."""
        return folded(node, lambda part, inner: self.part_place(part, inner, bound))

    def part_place(self, part, inner, bound):
        """The place of the value of a node from those of its own nodes."""
        if isinstance(part, Number):
            return ("set", part.value)
        if isinstance(part, Name):
            return bound[part.name]
        if isinstance(part, Call):
            return self.function_place(self.functions[part.name], inner)
        if isinstance(part, Power):
            return self.power_place(part.times, inner[0])
        for number, place in enumerate(inner):
            self.fetch(place, number)
        if isinstance(part, Half):
            self.rows.append(("right", 0, 0))
        elif isinstance(part, Over):
            self.divide()
        elif isinstance(part, Choose):
            # Register 0 has what is tested; then comes the value for yes, and that for no.
            self.rows.extend([("skip", 0, part.modulus, part.rest, 1), ("copy", 1, 2), ("copy", 0, 1)])
        else:
            self.rows.append((WORDS[part.__class__.__name__], 0, 0, 1))
        return self.stored(0)

    def power_place(self, times, base):
        """The place of the product of some equal factors."""
        if times == 0:
            return ("set", 1)
        self.fetch(base, 0)
        self.rows.append(("copy", 1, 0))
        digits = f"{times:b}"
        for digit in digits[1:]:
            self.rows.append(("mul", 0, 0, 0))
            if digit == "1":
                self.rows.append(("mul", 0, 0, 1))
        return self.stored(0)

    def divide(self):
        """Divides the value in register 0 by the odd one in register 1."""
        # The inverse grows in register 2. An odd number is its own one to three bits; each round doubles the bits.
        slot = self.stored(0)
        self.rows.append(("copy", 2, 1))
        right = 3
        while right < self.width:
            # x becomes 2 * x - b * x * x.
            self.rows.extend([("mul", 0, 2, 2), ("mul", 0, 0, 1), ("left", 2, 2), ("sub", 2, 2, 0)])
            right = 2 * right
        self.fetch(slot, 0)
        self.rows.append(("mul", 0, 0, 2))
