"""Nodes, made ready to be computed to some bits.

A node becomes a function of the list of the values that are known: those of the inputs, and of the names of the rows,
in order. It gives the low bits of the node's value.
"""

from lowsure.arithmetic import inverse, power


class Even(Exception):
    """The bottom of a quotient, or the base of something raised, is even."""


class Scope:
    """Where the values of names are found, and how many bits of each are asked for."""

    def __init__(self, names, programs):
        self.places = {name: at for at, name in enumerate(names)}
        self.wanted = [0] * len(names)
        self.programs = programs

    def place(self, name, bits):
        """The index of the value of a name, of which some bits are asked for."""
        at = self.places[name]
        self.wanted[at] = max(self.wanted[at], bits)
        return at

    def most_wanted(self, names):
        """The greatest number of bits that are asked for of any of these names."""
        return max([self.wanted[self.places[name]] for name in names])


def number_ready(node, bits, scope):
    low = node.value & ((1 << bits) - 1)
    return lambda known: low


def name_ready(node, bits, scope):
    at = scope.place(node.name, bits)
    mask = (1 << bits) - 1
    return lambda known: known[at] & mask


def add_ready(node, bits, scope):
    one = ready(node.one, bits, scope)
    other = ready(node.other, bits, scope)
    mask = (1 << bits) - 1
    return lambda known: (one(known) + other(known)) & mask


def subtract_ready(node, bits, scope):
    one = ready(node.one, bits, scope)
    other = ready(node.other, bits, scope)
    mask = (1 << bits) - 1
    return lambda known: (one(known) - other(known)) & mask


def multiply_ready(node, bits, scope):
    one = ready(node.one, bits, scope)
    other = ready(node.other, bits, scope)
    mask = (1 << bits) - 1
    return lambda known: one(known) * other(known) & mask


def half_ready(node, bits, scope):
    inner = ready(node.inner, bits + 1, scope)
    return lambda known: inner(known) >> 1


def over_ready(node, bits, scope):
    top = ready(node.top, bits, scope)
    bottom = ready(node.bottom, bits, scope)
    mask = (1 << bits) - 1

    def over(known):
        above = top(known)
        below = bottom(known)
        if below & 1 == 0:
            raise Even()
        return above * inverse(below, bits) & mask

    return over


def power_ready(node, bits, scope):
    base = ready(node.base, bits, scope)
    times = node.times
    mask = (1 << bits) - 1
    return lambda known: power(base(known), times, mask)


def raised_ready(node, bits, scope):
    base = ready(node.base, bits, scope)
    exponent = ready(node.exponent, bits, scope)
    mask = (1 << bits) - 1

    def raised(known):
        odd = base(known)
        times = exponent(known)
        if odd & 1 == 0:
            raise Even()
        return power(odd, times, mask)

    return raised


def choose_ready(node, bits, scope):
    tested = ready(node.tested, node.modulus.bit_length() - 1, scope)
    yes = ready(node.yes, bits, scope)
    no = ready(node.no, bits, scope)
    rest = node.rest
    return lambda known: yes(known) if tested(known) == rest else no(known)


def call_ready(node, bits, scope):
    # A function's low bits depend on as many more bits of an argument as its loss for it says.
    losses = scope.programs.losses[node.name]
    arguments = [ready(argument, bits + loss, scope) for argument, loss in zip(node.arguments, losses)]
    program = scope.programs.program(node.name, bits)

    def called(known):
        return program.computed([value(known) for value in arguments])

    return called


READY = {
    "Number": number_ready,
    "Name": name_ready,
    "Add": add_ready,
    "Subtract": subtract_ready,
    "Multiply": multiply_ready,
    "Half": half_ready,
    "Over": over_ready,
    "Power": power_ready,
    "Raised": raised_ready,
    "Choose": choose_ready,
    "Call": call_ready,
}


def ready(node, bits, scope):
    """The function that computes the low bits of a node."""
    make_ready = READY[node.__class__.__name__]
    return make_ready(node, bits, scope)
