"""The texts of libraries."""

from lowsure.errors import InvalidText
from lowsure.nodetexts import read_node, show_node
from lowsure.rows import Function, Let, Repeat
from lowsure.words import digits_value, is_name


def show_library(library):
    """The text of a library."""
    rows = []
    for function in library.functions:
        rows.append(" ".join(["function", function.name, *function.inputs]))
        rows.extend([show_row(row) for row in function.rows])
        rows.append(f"give {show_node(function.result)}")
    return "\n".join(rows)


def show_row(row):
    """The text of a row between the first and the last one of a function."""
    if isinstance(row, Let):
        return f"let {row.name} = {show_node(row.node)}"
    starts = " , ".join([show_node(node) for node in row.starts])
    steps = " , ".join([show_node(node) for node in row.steps])
    names = " , ".join(row.names)
    return f"repeat {names} = {starts} by {steps} times {row.times}"


def read_functions(text):
    """A list of the functions of a text; raises InvalidText with the index of the first row that cannot stand there."""
    texts = text.split("\n")
    functions = []
    at = 0
    while at < len(texts):
        function, at = read_function(texts, at)
        functions.append(function)
    return functions


def read_function(texts, begin):
    """The function that begins at an index of some rows, and the index behind it; raises InvalidText."""
    head = read_head(texts[begin].split(" "))
    if head is None:
        raise InvalidText(begin)
    rows = []
    for at in range(begin + 1, len(texts)):
        words = texts[at].split(" ")
        read = read_row(words)
        if read is None:
            raise InvalidText(at)
        if words[0] == "give":
            return (Function(head[0], head[1:], rows, read), at + 1)
        rows.append(read)
    raise InvalidText(len(texts))


def read_head(words):
    """The names in the first row of a function, or None."""
    names = words[1:]
    if words[0] != "function" or len(names) < 2 or not all([is_name(name) for name in names]):
        return None
    return names


def read_row(words):
    """What another row of a function tells, or None; for the last row this is the node."""
    if words[0] == "give":
        return read_part(words[1:])
    if words[0] == "let":
        return read_let(words)
    if words[0] == "repeat":
        return read_repeat(words)
    return None


def read_part(words):
    """The node with these words, or None."""
    try:
        return read_node(" ".join(words))
    except InvalidText:
        return None


def read_let(words):
    """The `Let` with these words, or None."""
    if len(words) < 3 or not is_name(words[1]) or words[2] != "=":
        return None
    node = read_part(words[3:])
    return None if node is None else Let(words[1], node)


def read_repeat(words):
    """The `Repeat` with these words, or None."""
    if "=" not in words or "by" not in words or words[-2] != "times":
        return None
    equals = words.index("=")
    by = words.index("by")
    names = read_states(words[1:equals])
    starts = read_parts(words[equals + 1:by])
    steps = read_parts(words[by + 1:-2])
    times = digits_value(words[-1])
    if names is None or starts is None or steps is None or times is None:
        return None
    if len(starts) != len(names) or len(steps) != len(names):
        return None
    return Repeat(names, starts, steps, times)


def read_states(words):
    """The one or two names with a comma between them, or None."""
    if len(words) != 1 and (len(words) != 3 or words[1] != ","):
        return None
    names = words[::2]
    return names if all([is_name(name) for name in names]) else None


def read_parts(words):
    """A list of the nodes with commas between them, or None."""
    depth = 0
    begin = 0
    nodes = []
    for at, word in enumerate(words):
        # Commas in parentheses are those of calls.
        if word == "(":
            depth += 1
        elif word == ")":
            depth -= 1
        elif word == "," and depth == 0:
            nodes.append(read_part(words[begin:at]))
            begin = at + 1
    nodes.append(read_part(words[begin:]))
    return None if any([node is None for node in nodes]) else nodes
