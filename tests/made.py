"""Random nodes and functions for the tests, the same ones in each run."""

from lowsure.nodes import Add, Call, Choose, Half, Multiply, Name, Number, Over, Power, Raised, Subtract
from lowsure.rows import Function, Let, Repeat


def random_node(source, names, functions, depth, kinds="+-*/hprccf"):
    """A node over these names; it calls these functions. A bottom or a base is mostly odd."""
    if depth == 0 or source.random() < 0.15:
        return Name(source.choice(names)) if source.random() < 0.7 else Number(source.randint(-9, 9))

    def inner():
        return random_node(source, names, functions, depth - 1, kinds)

    def odd():
        return Number(2) * inner() + Number(1) if source.random() < 0.9 else inner()

    kind = source.choice(kinds)
    if kind in "+-*":
        return {"+": Add, "-": Subtract, "*": Multiply}[kind](inner(), inner())
    if kind == "/":
        return Over(inner(), odd())
    if kind == "h":
        return Half(inner())
    if kind == "p":
        return Power(inner(), source.randint(0, 5))
    if kind == "r":
        return Raised(odd(), inner())
    if kind == "c":
        modulus = source.choice([2, 2, 2, 4, 8])
        return Choose(inner(), modulus, source.randint(0, modulus - 1), inner(), inner())
    if not functions:
        return inner()
    name, inputs = source.choice(functions)
    return Call(name, [inner() for _ in range(inputs)])


def random_step(source, states):
    """A node that may stand in steps."""
    return random_node(source, states, (), 2, "+-*p")


def random_function(source, name, earlier):
    """A function that calls some earlier ones."""
    functions = [(function.name, len(function.inputs)) for function in earlier]
    inputs = source.sample(["x", "y", "z"], source.choice([1, 1, 1, 2, 2, 3]))
    bound, rows = list(inputs), []
    for letter in "abc"[:source.choice([0, 0, 1, 2, 3])]:
        if source.random() < 0.5:
            rows.append(Let(letter, random_node(source, bound, functions, 2)))
            bound.append(letter)
            continue
        states = [letter + "a", letter + "b"][:source.choice([1, 2])]
        starts = [random_node(source, bound, functions, 1) for _ in states]
        steps = [random_step(source, states) for _ in states]
        rows.append(Repeat(states, starts, steps, source.choice([0, 1, 2, 5, 70, 100])))
        bound.extend(states)
    return Function(name, inputs, rows, random_node(source, bound, functions, 3))


def random_row(source, registers, behind):
    """A row of code, behind which there are so many rows."""
    def one():
        return source.randrange(registers)

    word = source.choice("set copy add sub mul left right load store skip".split())
    if word == "set":
        return word, one(), source.choice([0, 1, -3, source.randint(-2 ** 64 + 1, 2 ** 64 - 1)])
    if word in ("add", "sub", "mul"):
        return word, one(), one(), one()
    if word == "load":
        return word, one(), source.randrange(3)
    if word == "store":
        return word, source.randrange(3), one()
    if word == "skip":
        modulus = source.choice([1, 2, 2, 4, 64])
        return word, one(), modulus, source.randrange(modulus), min(behind, source.choice([0, 1, 2, 3, 7]))
    return word, one(), one()


def random_rows(source, registers, many):
    """Rows of code for a machine with these registers."""
    return [random_row(source, registers, many - 1 - at) for at in range(many)]
