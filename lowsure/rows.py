"""The rows of functions, and functions."""


def bound_names(row):
    """The names that a row binds."""
    return (row.name,) if isinstance(row, Let) else row.names


def row_nodes(row):
    """The nodes of a row that are computed once: all but steps."""
    return (row.node,) if isinstance(row, Let) else row.starts


class Let:
    """A row that binds a name to a node."""

    def __init__(self, name, node):
        self.name = name
        self.node = node

    def __eq__(self, other):
        return isinstance(other, Let) and self.name == other.name and self.node == other.node


class Repeat:
    """A row that binds names to states, after some rounds of their steps."""

    def __init__(self, names, starts, steps, times):
        self.names = tuple(names)
        self.starts = tuple(starts)
        self.steps = tuple(steps)
        self.times = times

    def __eq__(self, other):
        if not isinstance(other, Repeat) or self.names != other.names or self.times != other.times:
            return False
        return self.starts == other.starts and self.steps == other.steps


class Function:
    """A name, the names of the inputs, rows and the node of the result."""

    def __init__(self, name, inputs, rows, result):
        self.name = name
        self.inputs = tuple(inputs)
        self.rows = tuple(rows)
        self.result = result

    def __eq__(self, other):
        if not isinstance(other, Function) or self.name != other.name or self.inputs != other.inputs:
            return False
        return self.rows == other.rows and self.result == other.result
