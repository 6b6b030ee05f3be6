"""How many bits, how much depth and how many rows code for a piece takes."""

from lowsure.folding import folded
from lowsure.nodes import Call, Choose, Half, Name, Power, Raised
from lowsure.rows import Let, bound_names, row_nodes

COSTS = {
    "Number": 2,
    "Name": 0,
    "Add": 15,
    "Subtract": 15,
    "Multiply": 15,
    "Half": 10,
    "Over": 200,
    "Power": 2,
    "Raised": 0,
    "Choose": 15,
    "Call": 0,
}
COST_OF_FACTOR = 15
COST_OF_ARGUMENT = 5
COST_OF_NAME = 5


def tested_bits(choose):
    """How many bits a `Choose` tests."""
    return choose.modulus.bit_length() - 1


def part_depth(part, inner, bound, known):
    """The depth of a node from those of its own nodes; `bound` are those of names, `known` those of functions."""
    if isinstance(part, Name):
        return bound[part.name]
    if isinstance(part, Half):
        return inner[0] + 1
    if isinstance(part, Raised):
        return max(inner[0] + 1, inner[1])
    if isinstance(part, Choose):
        return max(inner[0] + tested_bits(part), inner[1], inner[2])
    if isinstance(part, Call):
        return max(inner) + known[part.name]
    return max([0, *inner])


def node_depth(node, bound, known):
    """The depth of a node."""
    return folded(node, lambda part, inner: part_depth(part, inner, bound, known))


def function_depth(function, known):
    """The depth of a function; `known` are those of the functions before."""
    bound = {name: 0 for name in function.inputs}
    depths = []
    for row in function.rows:
        depths.append(max([node_depth(node, bound, known) for node in row_nodes(row)]))
        for name in bound_names(row):
            bound[name] = depths[-1]
    return max([*depths, node_depth(function.result, bound, known)])


def depth_of(piece):
    """The depth of a piece."""
    known = {}
    for function in piece.library.functions:
        known[function.name] = function_depth(function, known)
    return known[piece.name]


def part_cost(part, known):
    """The cost of a node without its own nodes; `known` are those of functions."""
    own = COSTS[part.__class__.__name__]
    if isinstance(part, Power):
        return own + COST_OF_FACTOR * part.times
    if isinstance(part, Call):
        return own + known[part.name] + COST_OF_ARGUMENT * len(part.arguments)
    return own


def nodes_cost(nodes, known):
    """The cost of some nodes."""
    return sum([part_cost(part, known) for node in nodes for part in node.parts()])


def function_cost(function, known):
    """The cost of a function; `known` are those of the functions before."""
    total = nodes_cost((function.result,), known)
    for row in function.rows:
        total += nodes_cost(row_nodes(row), known) + COST_OF_NAME * len(bound_names(row))
        if not isinstance(row, Let):
            total += row.times * nodes_cost(row.steps, known)
    return total


def cost(piece):
    """The cost of a piece."""
    known = {}
    for function in piece.library.functions:
        known[function.name] = function_cost(function, known)
    return known[piece.name]


def need_bits(piece, bits):
    """The greatest number of bits of any node that is needed to compute the result to some bits."""
    return Needs(piece.library, bits).function_need(piece.name, bits)


class Needs:
    """Finds how many bits of nodes are needed; `bits` are those of rows whose names occur nowhere behind them."""

    def __init__(self, library, bits):
        self.functions = {function.name: function for function in library.functions}
        self.losses = library.programs.losses
        self.bits = bits
        self.found = {}

    def function_need(self, name, bits):
        """The greatest number of bits of any node of a function of whose result some bits are needed."""
        key = (name, bits)
        if key not in self.found:
            self.found[key] = self.rows_need(self.functions[name], bits)
        return self.found[key]

    def rows_need(self, function, bits):
        """The same, for a function that has not been asked for yet."""
        wanted = {}
        most = self.node_need(function.result, bits, wanted)
        for row in reversed(function.rows):
            needed = max([wanted.get(name, 0) for name in bound_names(row)])
            if needed == 0:
                needed = self.bits
            # Steps need no more bits than their starts, since they are made of sums, differences and products only.
            most = max([most, *[self.node_need(node, needed, wanted) for node in row_nodes(row)]])
        return most

    def node_need(self, node, bits, wanted):
        """The same, for a node; `wanted` is told how many bits of names are needed."""
        most = bits
        waiting = [(node, bits)]
        while waiting:
            part, number = waiting.pop()
            most = max(most, number)
            if isinstance(part, Name):
                wanted[part.name] = max(number, wanted.get(part.name, 0))
            elif isinstance(part, Call):
                most = max(most, self.function_need(part.name, number))
                for argument, loss in zip(part.arguments, self.losses[part.name]):
                    waiting.append((argument, number + loss))
            elif isinstance(part, Choose):
                waiting.extend([(part.tested, tested_bits(part)), (part.yes, number), (part.no, number)])
            else:
                more = 1 if isinstance(part, Half) else 0
                waiting.extend([(inner, number + more) for inner in part._nodes()])
        return most
