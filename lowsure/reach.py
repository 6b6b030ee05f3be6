"""How far up the bits of an input matter for the low bits of a result."""

from lowsure.lists import points


def values_of(doer, bits):
    """A list of the points of a doer's list, each with the value there."""
    return [(point, doer(point, bits)) for point in points(doer.loss, bits)]


def shifted(point, at, shift):
    """The point with something added to one of its coordinates."""
    return tuple([x + shift if index == at else x for index, x in enumerate(point)])


def moved_by(doer, bits, at, shift, values):
    """The first point at which a shift of an input moves the value, or None if it moves none at any integer point."""
    # The difference that the shift makes has the doer's loss, so the doer's list decides about it.
    for point, value in values:
        if doer(shifted(point, at, shift), bits) != value:
            return point
    return None


def reach(doer, bits, at, values):
    """The least number a for which the low bits are the same at points that differ in an input above a bits alone."""
    low = 0
    high = doer.loss[at] + bits
    # If a shift by a power of two moves no value, no greater one does.
    while low < high:
        middle = (low + high) // 2
        if moved_by(doer, bits, at, 1 << middle, values) is None:
            high = middle
        else:
            low = middle + 1
    return low
