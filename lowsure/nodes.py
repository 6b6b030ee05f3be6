"""The nodes of expressions."""

from lowsure.errors import InvalidNode
from lowsure.words import is_between, is_integer, is_name, is_small

MODULI = (2, 4, 8, 16, 32, 64)
MOST_TIMES = 64


def flat(node):
    """A list of the parts of a node, itself first. Without recursion, since texts may nest nodes very deep."""
    found = []
    waiting = [node]
    while waiting:
        part = waiting.pop()
        found.append(part)
        for inner in reversed(part._nodes()):
            waiting.append(inner)
    return found


def outline(node):
    """A list that two nodes share exactly if they are equal."""
    found = []
    for part in flat(node):
        found.append((part.__class__.__name__, part._plain()))
    return found


def words_of(node):
    """The words of the text of a node."""
    done = []
    for part in reversed(flat(node)):
        inner = []
        for _ in part._nodes():
            inner.append(done.pop())
        done.append((part.LEVEL, part._words(inner)))
    return done[0][1]


def placed(shown, least):
    """The words of a part in a place that asks for a level: in parentheses if the part has a lesser one."""
    level, words = shown
    return words if level >= least else ["(", *words, ")"]


class Node:
    """An expression. Subclasses tell of their own nodes and other attributes."""

    # How tightly the text holds together, from 1 (sums) to 4 (what is never in parentheses): what holds less
    # tightly than its place asks for is put into them.
    LEVEL = 4

    def __add__(self, other):
        return Add(self, other)

    def __sub__(self, other):
        return Subtract(self, other)

    def __mul__(self, other):
        return Multiply(self, other)

    def __floordiv__(self, other):
        return Over(self, other)

    def __neg__(self):
        return Subtract(Number(0), self)

    def __eq__(self, other):
        return isinstance(other, Node) and outline(self) == outline(other)

    def __len__(self):
        return len(flat(self))

    def __repr__(self):
        return " ".join(words_of(self))

    def parts(self):
        """Iterates over the nodes in this one, itself first."""
        yield from flat(self)

    def named(self):
        """The names in the `Name` nodes, alphabetically."""
        names = [part.name for part in flat(self) if isinstance(part, Name)]
        return tuple(sorted(set(names)))

    def replaced(self, name, other):
        """This node with another one in the place of each `Name` node of a name."""
        done = []
        for part in reversed(flat(self)):
            inner = []
            for _ in part._nodes():
                inner.append(done.pop())
            if isinstance(part, Name) and part.name == name:
                done.append(other)
            else:
                done.append(part._made(inner))
        return done[0]

    def _nodes(self):
        """The attributes that are nodes, in the order of the constructor."""
        return ()

    def _plain(self):
        """What tells nodes of a class apart besides their nodes."""
        return ()

    def _made(self, inner):
        """A node like this one with other nodes in it."""
        return self

    def _words(self, inner):
        """The words of the text, from pairs of level and words of the nodes."""
        return []


class Number(Node):
    """An integer."""

    def __init__(self, value):
        if not is_small(value):
            raise InvalidNode()
        self.value = value

    def _plain(self):
        return (self.value,)

    def _words(self, inner):
        return [str(self.value)]


class Name(Node):
    """The value that a name is bound to."""

    def __init__(self, name):
        if not is_name(name):
            raise InvalidNode()
        self.name = name

    def _plain(self):
        return (self.name,)

    def _words(self, inner):
        return [self.name]


class Pair(Node):
    """Two nodes with a sign between them; those of one level are read from the left."""

    SIGN = "+"
    LEVEL = 1

    def _nodes(self):
        return (self.one, self.other)

    def _words(self, inner):
        return [*placed(inner[0], self.LEVEL), self.SIGN, *placed(inner[1], self.LEVEL + 1)]


class Add(Pair):
    """A sum."""

    def __init__(self, one, other):
        self.one = one
        self.other = other

    def _made(self, inner):
        return Add(inner[0], inner[1])


class Subtract(Pair):
    """A difference."""

    SIGN = "-"

    def __init__(self, one, other):
        self.one = one
        self.other = other

    def _made(self, inner):
        return Subtract(inner[0], inner[1])


class Multiply(Pair):
    """A product."""

    SIGN = "*"
    LEVEL = 2

    def __init__(self, one, other):
        self.one = one
        self.other = other

    def _made(self, inner):
        return Multiply(inner[0], inner[1])


class Half(Node):
    """The half of a value, which drops its lowest bit."""

    LEVEL = 3

    def __init__(self, inner):
        self.inner = inner

    def _nodes(self):
        return (self.inner,)

    def _made(self, inner):
        return Half(inner[0])

    def _words(self, inner):
        return ["half", *placed(inner[0], self.LEVEL)]


class Over(Pair):
    """The quotient of a value and an odd one."""

    SIGN = "over"
    LEVEL = 2

    def __init__(self, top, bottom):
        self.top = top
        self.bottom = bottom

    def _nodes(self):
        return (self.top, self.bottom)

    def _made(self, inner):
        return Over(inner[0], inner[1])


class Power(Node):
    """The product of some factors that are all the same."""

    LEVEL = 3

    def __init__(self, base, times):
        if not is_between(times, 0, MOST_TIMES):
            raise InvalidNode()
        self.base = base
        self.times = times

    def _nodes(self):
        return (self.base,)

    def _plain(self):
        return (self.times,)

    def _made(self, inner):
        return Power(inner[0], self.times)

    def _words(self, inner):
        return [*placed(inner[0], self.LEVEL + 1), "**", str(self.times)]


class Raised(Node):
    """An odd value, raised to a value."""

    LEVEL = 3

    def __init__(self, base, exponent):
        self.base = base
        self.exponent = exponent

    def _nodes(self):
        return (self.base, self.exponent)

    def _made(self, inner):
        return Raised(inner[0], inner[1])

    def _words(self, inner):
        return [*placed(inner[0], self.LEVEL + 1), "to", *placed(inner[1], self.LEVEL)]


class Choose(Node):
    """One of two values, as the low bits of a tested one say."""

    def __init__(self, tested, modulus, rest, yes, no):
        if not is_integer(modulus) or modulus not in MODULI or not is_between(rest, 0, modulus - 1):
            raise InvalidNode()
        self.tested = tested
        self.modulus = modulus
        self.rest = rest
        self.yes = yes
        self.no = no

    def _nodes(self):
        return (self.tested, self.yes, self.no)

    def _plain(self):
        return (self.modulus, self.rest)

    def _made(self, inner):
        return Choose(inner[0], self.modulus, self.rest, inner[1], inner[2])

    def _words(self, inner):
        test = ["if", *inner[0][1], "mod", str(self.modulus), "is", str(self.rest)]
        return ["(", *test, "then", *inner[1][1], "else", *inner[2][1], ")"]


class Call(Node):
    """The value of a function at some values."""

    def __init__(self, name, arguments):
        if not is_name(name) or len(arguments) == 0:
            raise InvalidNode()
        self.name = name
        self.arguments = tuple(arguments)

    def _nodes(self):
        return self.arguments

    def _plain(self):
        return (self.name, len(self.arguments))

    def _made(self, inner):
        return Call(self.name, inner)

    def _words(self, inner):
        words = []
        for _, argument in inner:
            words.extend([",", *argument])
        return [self.name, "(", *words[1:], ")"]
