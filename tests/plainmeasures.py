"""The promises about measures (49, 50) once more, told in the plainest way; the tests compare with it."""

from lowsure.nodes import Add, Call, Choose, Half, Multiply, Name, Number, Over, Power, Raised, Subtract
from lowsure.rows import Let
from tests import plain

COSTS = {Number: 2, Name: 0, Add: 15, Subtract: 15, Multiply: 15, Half: 10, Over: 200, Raised: 0, Choose: 15}


def inner_nodes(node):
    """The nodes that a node is made of."""
    if isinstance(node, (Number, Name)):
        return []
    if isinstance(node, Half):
        return [node.inner]
    if isinstance(node, Power):
        return [node.base]
    if isinstance(node, Over):
        return [node.top, node.bottom]
    if isinstance(node, Raised):
        return [node.base, node.exponent]
    if isinstance(node, Choose):
        return [node.tested, node.yes, node.no]
    if isinstance(node, Call):
        return list(node.arguments)
    return [node.one, node.other]


def named(functions, name):
    return [function for function in functions if function.name == name][0]


def bits_of(choose):
    return [2, 4, 8, 16, 32, 64].index(choose.modulus) + 1


def depth_of(functions, name):
    """The depth of a function."""
    def depth(node, bound):
        inner = [depth(part, bound) for part in inner_nodes(node)]
        if isinstance(node, Name):
            return bound[node.name]
        if isinstance(node, Half):
            return inner[0] + 1
        if isinstance(node, Raised):
            return max(inner[1], inner[0] + 1)
        if isinstance(node, Choose):
            return max(inner[1], inner[2], inner[0] + bits_of(node))
        if isinstance(node, Call):
            return max(inner) + depth_of(functions, node.name)
        return max(inner, default=0)

    function = named(functions, name)
    bound = {name: 0 for name in function.inputs}
    found = [0]
    for row in function.rows:
        if isinstance(row, Let):
            bound[row.name] = depth(row.node, bound)
            found.append(bound[row.name])
        else:
            found.append(max([depth(start, bound) for start in row.starts]))
            bound.update({name: found[-1] for name in row.names})
    return max(*found, depth(function.result, bound))


def cost(functions, name):
    """The cost of a function."""
    def of(node):
        inner = sum([of(part) for part in inner_nodes(node)])
        if isinstance(node, Power):
            return inner + 15 * node.times + 2
        if isinstance(node, Call):
            return inner + cost(functions, node.name) + 5 * len(node.arguments)
        return inner + COSTS[type(node)]

    function = named(functions, name)
    total = of(function.result)
    for row in function.rows:
        if isinstance(row, Let):
            total += of(row.node) + 5
        else:
            total += sum([of(start) for start in row.starts]) + 5 * len(row.names)
            total += row.times * sum([of(step) for step in row.steps])
    return total


def need_bits(functions, name, bits):
    """The need of a function, by asking its nodes until nothing grows any more."""
    losses = plain.losses_of(functions)

    def of_function(function, asked):
        wanted, found = {}, [0]

        def ask(node, number):
            found[0] = max(found[0], number)
            if isinstance(node, Name):
                wanted[node.name] = max(wanted.get(node.name, 0), number)
            elif isinstance(node, Half):
                ask(node.inner, number + 1)
            elif isinstance(node, Choose):
                ask(node.tested, bits_of(node))
                ask(node.yes, number)
                ask(node.no, number)
            elif isinstance(node, Call):
                found[0] = max(found[0], of_function(named(functions, node.name), number))
                for argument, loss in zip(node.arguments, losses[node.name]):
                    ask(argument, number + loss)
            else:
                for part in inner_nodes(node):
                    ask(part, number)

        ask(function.result, asked)
        for at in reversed(range(len(function.rows))):
            row = function.rows[at]
            names = [row.name] if isinstance(row, Let) else list(row.names)
            later = [function.result]
            for further in function.rows[at + 1:]:
                later.extend([further.node] if isinstance(further, Let) else further.starts)
            occurs = [name for name in names if any(name in node.named() for node in later)]
            number = max([wanted[name] for name in occurs]) if occurs else bits
            for node in [row.node] if isinstance(row, Let) else [*row.starts, *row.steps]:
                ask(node, number)
        return found[0]

    return of_function(named(functions, name), bits)
