"""Libraries of functions, and their pieces."""

from lowsure.errors import NotOdd, UnknownName
from lowsure.libraryrules import check_functions
from lowsure.librarytexts import read_functions
from lowsure.losses import function_loss
from lowsure.programs import Programs, first_even

MOST_BITS = 64


def losses_of(functions):
    """A dict of the losses of functions, each of which calls only earlier ones."""
    found = {}
    for function in functions:
        found[function.name] = function_loss(function, found)
    return found


class Library:
    """Functions, each of which calls only earlier ones."""

    def __init__(self, functions):
        self.functions = tuple(functions)
        check_functions(self.functions)
        self.names = tuple([function.name for function in self.functions])
        self.programs = Programs(self.functions, losses_of(self.functions))
        for function in self.functions:
            point = first_even(function, self.programs)
            if point is not None:
                raise NotOdd(function.name, point)

    @classmethod
    def read(cls, text):
        """The library of a text."""
        return cls(read_functions(text))

    def piece(self, name):
        """The piece of the function with this name."""
        if name not in self.names:
            raise UnknownName(name)
        return Piece(self, name)

    def edited(self, function):
        """The library with a function in the place of the one of its name, or behind the others."""
        functions = [function if old.name == function.name else old for old in self.functions]
        if function.name not in self.names:
            functions.append(function)
        return Library(functions)

    def __len__(self):
        return len(self.functions)

    def __contains__(self, x):
        return x in self.names

    def __eq__(self, other):
        return isinstance(other, Library) and self.functions == other.functions


class Piece:
    """A function of a library, with all that it calls."""

    def __init__(self, library, name):
        self.library = library
        self.name = name
        self.loss = library.programs.losses[name]
        self.inputs = len(self.loss)
        self.most = MOST_BITS

    def __call__(self, point, bits=64):
        program = self.library.programs.program(self.name, bits)
        return program.computed(point)

    def __eq__(self, other):
        return isinstance(other, Piece) and self.name == other.name and self.library == other.library
