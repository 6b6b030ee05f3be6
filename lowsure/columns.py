"""Rows of code without skips, done at several starts at once.

What a register or a slot has at each of the starts is a column. Columns never change, so whatever rows may follow the
same ones share what these left behind.
"""

from lowsure.machine import read_places, written_place


def first_columns(machine, inputs, starts):
    """The columns before the first row; the starts are pairs of so many inputs and of fills."""
    mask = (1 << machine.width) - 1
    held = {at: [start[0][at] & mask for start in starts] for at in range(inputs)}
    return Columns(machine.width, held, [start[1] for start in starts])


class Columns:
    """The columns of registers and slots that are not 0; `fills` has for each start those that no right took yet."""

    def __init__(self, width, held, fills):
        self.width = width
        self.held = held
        self.fills = fills

    def behind(self, row):
        """The columns behind a further row."""
        fills = [left[1:] for left in self.fills] if row[0] == "right" else self.fills
        return Columns(self.width, {**self.held, written_place(row): self.computed(row)}, fills)

    def column(self, place):
        """The column of a register or slot."""
        return self.held[place] if place in self.held else [0 for _ in self.fills]

    def computed(self, row):
        """The column that a row writes."""
        mask = (1 << self.width) - 1
        word = row[0]
        if word == "set":
            return [row[2] & mask for _ in self.fills]
        read = [self.column(place) for place in read_places(row)]
        if word == "add":
            return [(one + other) & mask for one, other in zip(read[0], read[1])]
        if word == "sub":
            return [(one - other) & mask for one, other in zip(read[0], read[1])]
        if word == "mul":
            return [one * other & mask for one, other in zip(read[0], read[1])]
        if word == "left":
            return [one << 1 & mask for one in read[0]]
        if word == "right":
            top = self.width - 1
            return [(one >> 1) + ((left[0] if left else 0) << top) for one, left in zip(read[0], self.fills)]
        return read[0]
