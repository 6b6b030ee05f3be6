"""The texts of nodes."""

from lowsure.errors import InvalidText
from lowsure.nodes import MODULI, MOST_TIMES, Add, Call, Choose, Half, Multiply, Name, Number, Over, Power, Raised
from lowsure.nodes import Subtract
from lowsure.words import digits_value, is_name, number_value

MOST_OPEN = 20


def show_node(node):
    """The text of a node."""
    return repr(node)


def read_node(text):
    """The node of a text; raises InvalidText with the index of the first word that cannot stand there."""
    reader = Reader(text)
    node = reader.whole()
    if reader.at < len(reader.words):
        raise InvalidText(reader.at)
    return node


class Reader:
    """Reads the words of a text from the left; `at` is the index of the next one."""

    def __init__(self, text):
        self.words = text.split(" ")
        self.at = 0
        self.depth = 0

    def here(self):
        """The next word; behind the last one the empty word, which can stand nowhere either."""
        return self.words[self.at] if self.at < len(self.words) else ""

    def took(self, word):
        """Whether the next word is this one; if so, it is read."""
        found = self.here() == word
        if found:
            self.at += 1
        return found

    def need(self, word):
        """Reads a word that has to stand here."""
        if not self.took(word):
            raise InvalidText(self.at)

    def need_number(self, least, most):
        """Reads a number from `least` to `most`."""
        value = digits_value(self.here())
        if value is None or not least <= value <= most:
            raise InvalidText(self.at)
        self.at += 1
        return value

    def need_open(self):
        """Reads an opening parenthesis."""
        if self.depth == MOST_OPEN:
            raise InvalidText(self.at)
        self.need("(")
        self.depth += 1

    def need_close(self):
        """Reads a closing parenthesis."""
        self.need(")")
        self.depth -= 1

    def whole(self):
        """Reads sums and differences, and all that binds more tightly."""
        node = self.product()
        while self.here() in ("+", "-"):
            if self.took("+"):
                node = Add(node, self.product())
            else:
                self.need("-")
                node = Subtract(node, self.product())
        return node

    def product(self):
        """Reads products and quotients, and all that binds more tightly."""
        node = self.tight()
        while self.here() in ("*", "over"):
            if self.took("*"):
                node = Multiply(node, self.tight())
            else:
                self.need("over")
                node = Over(node, self.tight())
        return node

    def tight(self):
        """Reads what may stand behind `half` and `to`."""
        # A loop, since a text may have a hundred words of this kind one behind the other.
        waiting = []
        node = self.step(waiting)
        while node is None:
            node = self.step(waiting)
        if self.took("**"):
            node = Power(node, self.need_number(0, MOST_TIMES))
        for base in reversed(waiting):
            node = Half(node) if base is None else Raised(base, node)
        return node

    def step(self, waiting):
        """Reads `half` (kept as None) or a base with its `to` into a list, or the node behind them."""
        if self.took("half"):
            waiting.append(None)
            return None
        node = self.plain()
        if not self.took("to"):
            return node
        waiting.append(node)
        return None

    def plain(self):
        """Reads a number, a name, a call, an `if` or something in parentheses."""
        word = self.here()
        if word == "(":
            return self.enclosed()
        value = number_value(word)
        if value is None and not is_name(word):
            raise InvalidText(self.at)
        self.at += 1
        if value is not None:
            return Number(value)
        return self.called(word) if self.here() == "(" else Name(word)

    def called(self, name):
        """Reads the arguments of a call."""
        self.need_open()
        arguments = [self.whole()]
        while self.took(","):
            arguments.append(self.whole())
        self.need_close()
        return Call(name, arguments)

    def enclosed(self):
        """Reads something in parentheses."""
        self.need_open()
        node = self.chosen() if self.took("if") else self.whole()
        self.need_close()
        return node

    def chosen(self):
        """Reads what stands behind an `if`."""
        tested = self.whole()
        self.need("mod")
        modulus = self.need_number(2, MODULI[-1])
        if modulus not in MODULI:
            raise InvalidText(self.at - 1)
        self.need("is")
        rest = self.need_number(0, modulus - 1)
        self.need("then")
        yes = self.whole()
        self.need("else")
        return Choose(tested, modulus, rest, yes, self.whole())
