"""The errors of the program."""


class LowError(ValueError):
    """The base class of all errors but `UnknownName`."""


class InvalidText(LowError):
    """A text that cannot be read; `at` is the index of a word or of a row."""

    def __init__(self, at):
        self.at = at


class InvalidNode(LowError):
    """Arguments of which no node can be made."""


class InvalidLibrary(LowError):
    """Functions that make no library; `word` says what is wrong."""

    def __init__(self, word, function, row):
        self.word = word
        self.function = function
        self.row = row


class NotOdd(LowError):
    """A function that divides by an even value, or raises one, at a point."""

    def __init__(self, name, point):
        self.name = name
        self.point = point


class TooMany(LowError):
    """More points or classes than the program goes through."""

    def __init__(self, count):
        self.count = count


class Mismatch(LowError):
    """Arguments that do not fit each other."""


class NoTable(LowError):
    """Values that no function of the loss has; `at` is the first wrong one."""

    def __init__(self, at):
        self.at = at


class NotOneToOne(LowError):
    """A step that maps two different states to the same one."""

    def __init__(self, bits, state, other):
        self.bits = bits
        self.state = state
        self.other = other


class InvalidCode(LowError):
    """Rows that make no code; `word` says what is wrong."""

    def __init__(self, word, row):
        self.word = word
        self.row = row


class CannotMake(LowError):
    """A piece for which no code is made; `word` says why."""

    def __init__(self, word):
        self.word = word


class InvalidRow(LowError):
    """A row that a desk does not understand."""


class UnknownName(KeyError):
    """A name that no function has."""

    def __init__(self, name):
        self.name = name
