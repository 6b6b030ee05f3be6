"""How far up the bits of an input matter for the low bits of a result."""

from lowsure.lists import points


def reach(doer, bits, at):
    """The least number a for which the low bits are the same at points that differ in an input above a bits alone."""
    loss = doer.loss
    known = [(point, doer(point, bits)) for point in points(loss, bits)]
    low = 0
    high = loss[at] + bits
    # If a shift by a power of two moves no value, no greater one does.
    while low < high:
        middle = (low + high) // 2
        if is_unmoved(doer, bits, at, 1 << middle, known):
            high = middle
        else:
            low = middle + 1
    return low


def is_unmoved(doer, bits, at, shift, known):
    """Whether a shift of an input changes no value. The difference has the doer's loss, so its list decides."""
    for point, value in known:
        moved = list(point)
        moved[at] = moved[at] + shift
        if doer(moved, bits) != value:
            return False
    return True
