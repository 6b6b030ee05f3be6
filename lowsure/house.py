"""Houses: libraries that change, with code for each function that is made anew only where it has become wrong."""

from lowsure.errors import UnknownName
from lowsure.library import Library
from lowsure.making import function_nodes, make
from lowsure.nodes import Call
from lowsure.rightness import wrong_at
from lowsure.runs import run

FIRST_BITS = 8


def users(library, name):
    """The names of a function and of all that call it, also through others, in library order."""
    found = {name: True}
    # A function calls only earlier ones.
    for function in library.functions:
        if any([part.name in found for part in function_nodes(function) if isinstance(part, Call)]):
            found[function.name] = True
    return list(found)


class House:
    """Keeps a library, the bits that are asked of each function, and its code."""

    def __init__(self, machine):
        self.machine = machine
        self.library = None
        self.names = ()
        # These dicts are replaced, never changed: what an undo brings back still has the old ones.
        self.bits = {}
        self.codes = {}
        self.earlier = []
        self.done = []

    def check_name(self, name):
        """Raises UnknownName if no function has the name."""
        if name not in self.names:
            raise UnknownName(name)

    def code(self, name):
        """The code of a function."""
        self.check_name(name)
        return self.codes[name]

    def asked(self, name):
        """The bits that are asked of a function."""
        self.check_name(name)
        return self.bits[name]

    def edit(self, function, bits=None):
        """Puts a function into the library; tells whose code had become wrong, and where."""
        library = Library((function,)) if self.library is None else self.library.edited(function)
        name = function.name
        wanted = self.bits.get(name, min(FIRST_BITS, self.machine.width)) if bits is None else bits
        told = self.renew(library, {**self.bits, name: wanted}, users(library, name))
        self.done.append(("edit", name))
        return told

    def ask(self, name, bits):
        """Changes the bits that are asked of a function; tells whether its code had become wrong, and where."""
        self.check_name(name)
        told = self.renew(self.library, {**self.bits, name: bits}, (name,))
        self.done.append(("ask", name, bits))
        return told

    def renew(self, library, bits, names):
        """Replaces library and bits, and the code of those of some functions that have none, or whose code is wrong."""
        codes = dict(self.codes)
        told = []
        for name in names:
            piece = library.piece(name)
            if name in codes:
                wrong = wrong_at(self.machine, codes[name], piece, bits[name])
                if wrong is None:
                    continue
                told.append((name, wrong[0], wrong[1]))
            codes[name] = make(self.machine, piece, bits[name])
        self.earlier.append((self.library, self.bits, self.codes))
        self.put(library, bits, codes)
        return tuple(told)

    def put(self, library, bits, codes):
        """Keeps a library, or None, with bits and codes."""
        self.library = library
        self.names = () if library is None else library.names
        self.bits = bits
        self.codes = codes

    def call(self, name, point, fills=()):
        """The low bits that are asked of a function, as its code gives them."""
        self.check_name(name)
        return run(self.machine, self.codes[name], point, fills) & ((1 << self.bits[name]) - 1)

    def tried(self, functions):
        """What edits with these functions return, one after the other; the house stays as it is."""
        trial = House(self.machine)
        trial.put(self.library, self.bits, self.codes)
        return tuple([trial.edit(function) for function in functions])

    def undo(self):
        """Takes back the last edit or ask that is not taken back yet; tells whether there was one."""
        if not self.earlier:
            return False
        library, bits, codes = self.earlier.pop()
        self.put(library, bits, codes)
        self.done.append(("undo",))
        return True

    def log(self):
        """A list of all edits, asks and undos that succeeded."""
        return list(self.done)

    def __len__(self):
        return len(self.names)
