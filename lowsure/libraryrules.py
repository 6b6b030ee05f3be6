"""What functions have to satisfy to make a library."""

from lowsure.errors import InvalidLibrary
from lowsure.nodes import Add, Call, Multiply, Name, Number, Power, Subtract
from lowsure.rows import Let, bound_names
from lowsure.words import is_between, is_name

MOST_FUNCTIONS = 8
MOST_INPUTS = 3
MOST_ROUNDS = 10 ** 18


def check_functions(functions):
    """Raises InvalidLibrary for the first violation."""
    if not 1 <= len(functions) <= MOST_FUNCTIONS:
        raise InvalidLibrary("count", -1, -1)
    known = {}
    for at, function in enumerate(functions):
        check_head(function, at, known)
        check_rows(function, at, known)
        known[function.name] = len(function.inputs)


def check_head(function, at, known):
    """Checks the names of a function and of its inputs; `known` are the functions before it."""
    if not is_name(function.name) or function.name in known:
        raise InvalidLibrary("name", at, -1)
    if not 1 <= len(function.inputs) <= MOST_INPUTS or not are_different_names(function.inputs):
        raise InvalidLibrary("inputs", at, -1)


def are_different_names(values):
    """Whether the values are names, and none of them occurs twice."""
    return all([is_name(value) for value in values]) and len(set(values)) == len(values)


def check_rows(function, at, known):
    """Checks the rows of a function and its result."""
    bound = {name: True for name in function.inputs}
    for index, row in enumerate(function.rows):
        word = let_fault(row, bound, known) if isinstance(row, Let) else repeat_fault(row, bound, known)
        if word != "":
            raise InvalidLibrary(word, at, index)
        for name in bound_names(row):
            bound[name] = True
    word = nodes_fault((function.result,), bound, known)
    if word != "":
        raise InvalidLibrary(word, at, len(function.rows))


def let_fault(row, bound, known):
    """The word for what is wrong with a `Let`, or the empty string."""
    if not is_name(row.name) or row.name in bound:
        return "bound"
    return nodes_fault((row.node,), bound, known)


def repeat_fault(row, bound, known):
    """The word for what is wrong with a `Repeat`, or the empty string."""
    if not are_states(row) or any([name in bound for name in row.names]):
        return "bound"
    word = nodes_fault(row.starts, bound, known)
    if word == "" and not all([is_step(step, row.names) for step in row.steps]):
        return "step"
    return word


def are_states(row):
    """Whether the names, the numbers and the times of a `Repeat` are as they have to be."""
    if not 1 <= len(row.names) <= 2 or not are_different_names(row.names):
        return False
    if len(row.starts) != len(row.names) or len(row.steps) != len(row.names):
        return False
    return is_between(row.times, 0, MOST_ROUNDS)


def is_step(node, states):
    """Whether a node may stand in the steps of these states."""
    for part in node.parts():
        if isinstance(part, Name):
            if part.name not in states:
                return False
        elif not isinstance(part, (Number, Add, Subtract, Multiply, Power)):
            return False
    return True


def nodes_fault(nodes, bound, known):
    """The word for a name that is not bound, or else for a call that cannot be, in any of some nodes."""
    for node in nodes:
        if not all([name in bound for name in node.named()]):
            return "unknown"
    for node in nodes:
        if not all([is_call(part, known) for part in node.parts() if isinstance(part, Call)]):
            return "call"
    return ""


def is_call(call, known):
    """Whether a call fits one of the functions before."""
    return call.name in known and known[call.name] == len(call.arguments)
