"""Desks, at which a house is led by rows of words."""

from lowsure.agreement import agree
from lowsure.codetexts import show_code
from lowsure.errors import InvalidRow, InvalidText, Mismatch, UnknownName
from lowsure.house import House
from lowsure.librarytexts import read_function
from lowsure.machine import Machine
from lowsure.needed import needed, sure
from lowsure.words import digits_value, is_between, is_name, number_value

# What follows each word: N is a name, K a number of bits, M the width of a machine, R a number of registers, T a text;
# at the end, I stands for any number of integers, and W for any number of widths.
FORMS = {
    "machine": "MR",
    "edit": "T",
    "ask": "NK",
    "value": "NKI",
    "call": "NI",
    "loss": "N",
    "needed": "NK",
    "sure": "NKW",
    "agree": "NNK",
    "code": "N",
    "undo": "",
}
BOUNDS = {"K": (1, 64), "M": (4, 64), "R": (3, 8), "W": (0, 100)}


def is_endless(form):
    """Whether a form ends with any number of words."""
    return form[-1:] in ("I", "W")


def read_row(row):
    """The first word of a row, and a list of what the other ones say; raises InvalidRow."""
    if not isinstance(row, str) or "\n" in row:
        raise InvalidRow()
    words = row.split(" ")
    if "" in words or words[0] not in FORMS:
        raise InvalidRow()
    return (words[0], read_items(FORMS[words[0]], words[1:]))


def read_items(form, words):
    """A list of what some words say in a form."""
    if form == "T" and len(words) > 0:
        return [" ".join(words)]
    letters = form
    if is_endless(form):
        letters = form[:-1] + form[-1] * (len(words) + 1 - len(form))
    if len(words) != len(letters):
        raise InvalidRow()
    items = [read_item(letter, word) for letter, word in zip(letters, words)]
    if any([item is None for item in items]):
        raise InvalidRow()
    return items


def read_item(letter, word):
    """What a word says at the place of a letter, or None."""
    if letter == "N":
        return word if is_name(word) else None
    if letter == "I":
        return number_value(word)
    least, most = BOUNDS[letter]
    value = digits_value(word)
    return value if is_between(value, least, most) else None


def check_items(house, form, items):
    """Raises UnknownName if a name is not that of a function, and Mismatch if there is not one item for each input."""
    for letter, item in zip(form, items):
        if letter == "N" and item not in house.names:
            raise UnknownName(item)
    if is_endless(form) and len(items) + 1 - len(form) != house.library.piece(items[0]).inputs:
        raise Mismatch()


def one_function(text):
    """The function of a text in one row."""
    rows = text.replace(" ; ", "\n").split("\n")
    function, end = read_function(rows, 0)
    if end < len(rows):
        raise InvalidText(end)
    return function


def spaced(items):
    """Some items with spaces between them."""
    return " ".join([str(item) for item in items])


def names_text(names):
    """Some names with spaces between them, or the word for none."""
    return spaced(names) if names else "none"


def do_edit(house, items):
    function = one_function(items[0])
    # A new function is not told by the house, and calls of it come later.
    new = [] if function.name in house.names else [function.name]
    return names_text([told[0] for told in house.edit(function)] + new)


def do_ask(house, items):
    return names_text([told[0] for told in house.ask(items[0], items[1])])


def do_value(house, items):
    piece = house.library.piece(items[0])
    return str(piece(items[2:], items[1]))


def do_call(house, items):
    return str(house.call(items[0], items[1:]))


def do_loss(house, items):
    return spaced(house.library.piece(items[0]).loss)


def do_needed(house, items):
    return spaced(needed(house.library.piece(items[0]), items[1]))


def do_sure(house, items):
    return str(sure(house.library.piece(items[0]), items[2:], items[1]))


def do_agree(house, items):
    bits, point = agree(house.library.piece(items[0]), house.library.piece(items[1]), items[2])
    return spaced([bits, "bits"] if point is None else [bits, "bits", *point])


def do_code(house, items):
    return show_code(house.code(items[0])).replace("\n", " ; ")


def do_undo(house, items):
    return "undone" if house.undo() else "nothing"


DOING = {
    "edit": do_edit,
    "ask": do_ask,
    "value": do_value,
    "call": do_call,
    "loss": do_loss,
    "needed": do_needed,
    "sure": do_sure,
    "agree": do_agree,
    "code": do_code,
    "undo": do_undo,
}


class Desk:
    """Keeps a house, or none at first."""

    def __init__(self):
        self.house = None

    def say(self, row):
        """Does what a row says; the answer."""
        word, items = read_row(row)
        if word == "machine":
            self.house = House(Machine(items[0], items[1]))
            return "ready"
        if self.house is None:
            raise InvalidRow()
        check_items(self.house, FORMS[word], items)
        do = DOING[word]
        return do(self.house, items)

    def __len__(self):
        return len(() if self.house is None else self.house.names)
