"""The promises about values, losses and tables once more, told in the plainest way; the tests compare with it."""

from math import comb, factorial

from lowsure.nodes import Add, Call, Choose, Half, Multiply, Name, Number, Over, Power, Raised, Subtract
from lowsure.rows import Let

# All is computed modulo this. A half loses the highest bit, so that far fewer bits than these are right.
WHOLE = 2 ** 200


class Even(Exception):
    """A bottom or a base is even."""


def odd(value):
    if value % 2 == 0:
        raise Even()
    return value


def node_value(node, bound, functions):
    def inner(part):
        return node_value(part, bound, functions)

    if isinstance(node, Number):
        return node.value % WHOLE
    if isinstance(node, Name):
        return bound[node.name] % WHOLE
    if isinstance(node, Add):
        return (inner(node.one) + inner(node.other)) % WHOLE
    if isinstance(node, Subtract):
        return (inner(node.one) - inner(node.other)) % WHOLE
    if isinstance(node, Multiply):
        return inner(node.one) * inner(node.other) % WHOLE
    if isinstance(node, Half):
        return inner(node.inner) // 2
    if isinstance(node, Over):
        return inner(node.top) * pow(odd(inner(node.bottom)), -1, WHOLE) % WHOLE
    if isinstance(node, Power):
        return pow(inner(node.base), node.times, WHOLE)
    if isinstance(node, Raised):
        return pow(odd(inner(node.base)), inner(node.exponent), WHOLE)
    if isinstance(node, Choose):
        return inner(node.yes) if inner(node.tested) % node.modulus == node.rest else inner(node.no)
    return function_value(functions, node.name, [inner(argument) for argument in node.arguments])


def function_value(functions, name, point):
    """The value of a function modulo WHOLE; raises Even."""
    function = [each for each in functions if each.name == name][0]
    bound = dict(zip(function.inputs, point))
    for row in function.rows:
        if isinstance(row, Let):
            bound[row.name] = node_value(row.node, bound, functions)
            continue
        states = [node_value(start, bound, functions) for start in row.starts]
        for _ in range(row.times):
            states = [node_value(step, dict(zip(row.names, states)), ()) for step in row.steps]
        bound.update(zip(row.names, states))
    return node_value(function.result, bound, functions)


def node_loss(node, bound, losses, inputs):
    """The loss of a node as a list, and the set of the inputs that it names."""
    def inner(part):
        return node_loss(part, bound, losses, inputs)

    def more(pair, number):
        return [old + number if at in pair[1] else old for at, old in enumerate(pair[0])], pair[1]

    def greatest(pairs):
        return ([max(column) for column in zip([0] * inputs, *[pair[0] for pair in pairs])],
                set().union(*[pair[1] for pair in pairs]))

    if isinstance(node, Number):
        return [0] * inputs, set()
    if isinstance(node, Name):
        return bound[node.name]
    if isinstance(node, (Add, Subtract, Multiply)):
        return greatest([inner(node.one), inner(node.other)])
    if isinstance(node, Over):
        return greatest([inner(node.top), inner(node.bottom)])
    if isinstance(node, Power):
        return inner(node.base)
    if isinstance(node, Half):
        return more(inner(node.inner), 1)
    if isinstance(node, Raised):
        return greatest([more(inner(node.base), 1), inner(node.exponent)])
    if isinstance(node, Choose):
        depth = [2, 4, 8, 16, 32, 64].index(node.modulus) + 1
        return greatest([more(inner(node.tested), depth), inner(node.yes), inner(node.no)])
    assert isinstance(node, Call)
    return greatest([more(inner(each), number) for each, number in zip(node.arguments, losses[node.name])])


def losses_of(functions):
    """The loss of each function."""
    losses = {}
    for function in functions:
        inputs = len(function.inputs)
        bound = {name: ([0] * inputs, {at}) for at, name in enumerate(function.inputs)}
        found = []
        for row in function.rows:
            nodes = [row.node] if isinstance(row, Let) else row.starts
            pairs = [node_loss(node, bound, losses, inputs) for node in nodes]
            loss = [max(column) for column in zip(*[pair[0] for pair in pairs])]
            found.append(loss)
            for name in [row.name] if isinstance(row, Let) else row.names:
                bound[name] = loss, set().union(*[pair[1] for pair in pairs])
        found.append(node_loss(function.result, bound, losses, inputs)[0])
        losses[function.name] = tuple([max(column) for column in zip(*found)])
    return losses


def twos(n):
    """How often 2 divides n!."""
    number, found = factorial(n), 0
    while number % 2 == 0:
        number, found = number // 2, found + 1
    return found


def vectors(count, bits):
    """The tuples of integers with fewer twos than bits."""
    if count == 0:
        return [()]
    longest = [j for j in range(bits + 8) if twos(j) < bits]
    return sorted([(j, *others) for j in longest for others in vectors(count - 1, bits - twos(j))])


def points(loss, bits):
    """The list of a loss."""
    classes = [()]
    for depth in loss:
        classes = [(*residues, r) for residues in classes for r in range(2 ** depth)]
    return [tuple([r + 2 ** depth * z for r, depth, z in zip(residues, loss, vector)])
            for residues in classes for vector in vectors(len(loss), bits)]


def first_wrong_entry(loss, bits, entries):
    """The index of the first value that no table has there, by the sums of promise 23."""
    order = vectors(len(loss), bits)
    for index in range(len(entries)):
        begin = index // len(order) * len(order)
        whole = order[index - begin]
        total = 0
        for at, vector in enumerate(order):
            if all(i <= j for i, j in zip(vector, whole)):
                term = entries[begin + at] * (-1) ** (sum(whole) - sum(vector))
                for i, j in zip(vector, whole):
                    term *= comb(j, i)
                total += term
        if total % 2 ** sum([twos(j) for j in whole]) != 0:
            return index
    return None


def classes_where(holds, depth):
    """The largest classes of integers at which something holds that depends on so many low bits."""
    found = []
    for d in range(depth + 1):
        for r in range(2 ** d):
            inside = any([r % 2 ** (e) == s for e, s in found])
            if not inside and all([holds[n] for n in range(r, 2 ** depth, 2 ** d)]):
                found.append((d, r))
    return tuple(sorted(found, key=lambda pair: pair[1]))


def done_rows(machine, rows, inputs, fills):
    """What `trace` tells, row by row."""
    whole = 2 ** machine.width
    registers = [*[x % whole for x in inputs], *[0] * machine.registers][:machine.registers]
    slots, rights, found, at = [0] * 1000, 0, [], 0
    while at < len(rows):
        word, *items = rows[at]
        done = at
        at += 1
        if word == "set":
            registers[items[0]] = items[1] % whole
        elif word == "copy":
            registers[items[0]] = registers[items[1]]
        elif word in ("add", "sub", "mul"):
            one, other = registers[items[1]], registers[items[2]]
            registers[items[0]] = {"add": one + other, "sub": one - other, "mul": one * other}[word] % whole
        elif word == "left":
            registers[items[0]] = registers[items[1]] * 2 % whole
        elif word == "right":
            fill = [*fills, *[0] * (rights + 1)][rights]
            registers[items[0]] = registers[items[1]] // 2 + fill * whole // 2
            rights += 1
        elif word == "load":
            registers[items[0]] = slots[items[1]]
        elif word == "store":
            slots[items[0]] = registers[items[1]]
        elif registers[items[0]] % items[1] == items[2]:
            at += items[3]
        found.append((done, tuple(registers), rights))
    return found


def looked_at(rows, inputs):
    """The loss and the depth of code, by going through all of its ways."""
    loss, depth = [0] * inputs, 0
    waiting = [(0, {("register", at): {at: 0} for at in range(inputs)}, {})]
    while waiting:
        at, held, depths = waiting.pop()
        if at == len(rows):
            for number, deep in held.get(("register", 0), {}).items():
                loss[number] = max(loss[number], deep)
            depth = max(depth, depths.get(("register", 0), 0))
            continue
        word, *items = rows[at]
        if word == "skip":
            bits = [1, 2, 4, 8, 16, 32, 64].index(items[1])
            for number, deep in held.get(("register", items[0]), {}).items():
                loss[number] = max(loss[number], deep + bits)
            depth = max(depth, depths.get(("register", items[0]), 0) + bits)
            waiting.extend([(at + 1, held, depths), (at + 1 + items[3], held, depths)])
            continue
        target = ("slot" if word == "store" else "register", items[0])
        sources = [] if word == "set" else [("slot" if word == "load" else "register", item) for item in items[1:]]
        more = 1 if word == "right" else 0
        got = {}
        for source in sources:
            for number, deep in held.get(source, {}).items():
                got[number] = max(got.get(number, 0), deep + more)
        deepest = max([0, *[depths.get(source, 0) for source in sources]]) + more
        waiting.append((at + 1, {**held, target: got}, {**depths, target: deepest}))
    return tuple(loss), depth
